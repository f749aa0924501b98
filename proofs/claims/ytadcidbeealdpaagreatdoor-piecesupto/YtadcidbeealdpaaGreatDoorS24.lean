import Derived.Test.YtadcidbeealdpaaGreatDoorS23
import Derived.Shelf.Unicode.DecodeSlow

/- What a session stands on: settings, tables. -/
namespace Go.Proofs.YtadcidbeealdpaaGreatDoor
open Go.RowKit

theorem RowAt.chg {A : Nat → Prop} {w w' : World} {v : Value} {n sz : Nat} {cs : List Value} (h : RowAt w v n sz cs) (hc : Chg A w w') (hn : ∀ g, v.ownBlock = some g → ¬ A g) : RowAt w' v n sz cs := by
  refine ⟨h.1, ?_⟩
  rcases h.2 with h0 | ⟨b, off, cap, e, hle, hcell⟩
  · exact .inl h0
  · refine .inr ⟨b, off, cap, e, hle, fun j hj => ?_⟩
    have h1 := hcell j hj
    have hlt : b < w.heap.size := by
      rcases hv : cs[j]? with _ | x
      · have := h.1; rw [List.getElem?_eq_none_iff] at hv; omega
      · rw [hv] at h1; exact block_lt h1
    rw [← h1]
    exact World.cell?_of_block (hc.block b hlt (hn b (by rw [e]; rfl)))
theorem utf_chg {A : Nat → Prop} {w w' : World} {g h : Nat} (hu : Lib.Utf8Tabs g h w) (hc : Chg A w w') (l1 : g < w.heap.size) (l2 : h < w.heap.size) (n1 : ¬ A g) (n2 : ¬ A h) : Lib.Utf8Tabs g h w' := by
  have m1 : ∀ o, w'.cell? ⟨g, o, none⟩ = w.cell? ⟨g, o, none⟩ := fun o => World.cell?_of_block (hc.block _ l1 n1)
  have m2 : ∀ o, w'.cell? ⟨h, o, none⟩ = w.cell? ⟨h, o, none⟩ := fun o => World.cell?_of_block (hc.block _ l2 n2)
  exact ⟨fun k hk => (m1 k).trans (hu.1 k hk), fun i hi => ⟨(m2 _).trans (hu.2 i hi).1, (m2 _).trans (hu.2 i hi).2⟩⟩
/-- settings and tables, all of them in E -/
structure EnvAt (E : Nat → Prop) (w : World) (pp : Nat) (c : Cfg) : Prop where
  set : ∃ vD vN vU vW, SetAt w pp c vD vN vU vW ∧ ∀ k, (vD.ownBlock = some k ∨ vN.ownBlock = some k ∨ vU.ownBlock = some k ∨ vW.ownBlock = some k) → E k
  epp : E pp
  len : ∃ n, w.cell? ⟨0, 0, none⟩ = some (.int .i64 n)
  elen : E 0
  pow : Pow w
  epow : E 6
  utf : Lib.Utf8Tabs 2 3 w
  efir : E 2
  eacc : E 3
  lt : ∀ k, E k → k < w.heap.size
section
variable {E A : Nat → Prop} {w w' : World} {pp : Nat} {c : Cfg}
theorem EnvAt.chg (h : EnvAt E w pp c) (hc : Chg A w w') (hA : ∀ k, E k → ¬ A k) : EnvAt E w' pp c := by
  obtain ⟨vD, vN, vU, vW, h1, h2⟩ := h.set
  obtain ⟨D, h3, h4⟩ := h1.blk
  obtain ⟨n, hn⟩ := h.len
  refine ⟨⟨vD, vN, vU, vW, ⟨⟨D, hc.some_ h3 (hA _ h.epp), h4⟩, ⟨h1.rows.1.chg hc (fun g e => hA g (h2 g (.inl e))), h1.rows.2.1.chg hc (fun g e => hA g (h2 g (.inr (.inl e)))), h1.rows.2.2.1.chg hc (fun g e => hA g (h2 g (.inr (.inr (.inl e))))), h1.rows.2.2.2.chg hc (fun g e => hA g (h2 g (.inr (.inr (.inr e)))))⟩, h1.may⟩, h2⟩, h.epp, ⟨n, ?_⟩, h.elen, h.pow.chg hc (hA _ h.epow), h.epow, utf_chg h.utf hc (h.lt _ h.efir) (h.lt _ h.eacc) (hA _ h.efir) (hA _ h.eacc), h.efir, h.eacc, fun k hk => Nat.lt_of_lt_of_le (h.lt k hk) hc.size⟩
  rw [← hn]
  exact World.cell?_of_block (hc.block _ (h.lt _ h.elen) (hA _ h.elen))
theorem EnvAt.below (h : EnvAt E w pp c) (hb : Below w.heap.size w w') : EnvAt E w' pp c := h.chg (Chg.below hb : Chg (fun _ => False) w w') (fun _ _ e => e)
theorem EnvAt.may (h : EnvAt E w pp c) : mayB c = true := by
  obtain ⟨_, _, _, _, h1, _⟩ := h.set
  exact h1.may
end

structure PCmd where
  verb : Nat
  name : List UInt8
  size : Nat
  shown : List UInt8
def l250 : List UInt8 := [50, 53, 48, 32, 111, 107, 13, 10]
def l500 : List UInt8 := [53, 48, 48, 32, 119, 104, 97, 116, 13, 10]
def l501 : List UInt8 := [53, 48, 49, 32, 104, 111, 119, 13, 10]
def l503 : List UInt8 := [53, 48, 51, 32, 102, 105, 114, 115, 116, 13, 10]
def l552 : List UInt8 := [53, 53, 50, 32, 115, 105, 122, 101, 13, 10]
def l221 : List UInt8 := [50, 50, 49, 32, 98, 121, 101, 13, 10]
def l354 : List UInt8 := [51, 53, 52, 32, 103, 111, 13, 10]
def l235 : List UInt8 := [50, 51, 53, 32, 111, 107, 13, 10]
def l535 : List UInt8 := [53, 51, 53, 32, 110, 111, 13, 10]
def l452 : List UInt8 := [52, 53, 50, 32, 114, 111, 111, 109, 13, 10]
def hostOf (c : Cfg) : List UInt8 := c.host.data.toList
def readyS (s : PSes) (v : Nat) : Bool := readyB v s.greeted (s.tx.map fun t => t.tos.length)
def obeyS (c : Cfg) (s : PSes) (k : PCmd) : PSes × List (List UInt8) :=
  if readyS s k.verb = false then (s, [l503]) else
  match k.verb with
  | 0 => (s, [l500])
  | 1 => (s, [l501])
  | 2 => ({ s with over := true }, [l221])
  | 3 => (s, [l250])
  | 4 => ({ s with tx := none }, [l250])
  | 5 => (match s.tx with | some t => ({ s with tx := some { t with body := some ⟨[], false, false⟩ } }, [l354]) | none => (s, []))
  | 6 => ({ s with greeted := true, tx := none }, [[50, 53, 48, 32] ++ hostOf c ++ [13, 10]])
  | 7 => ({ s with greeted := true, tx := none }, [[50, 53, 48, 45] ++ hostOf c ++ [13, 10], [50, 53, 48, 45, 83, 73, 90, 69, 32] ++ Lib.itoa c.size ++ [13, 10], [50, 53, 48, 32, 65, 85, 84, 72, 32, 80, 76, 65, 73, 78, 13, 10]])
  | 8 => if s.tx.isSome || s.known then (s, [l503]) else if c.users.any (isUser (bs k.shown)) then ({ s with known := true }, [l235]) else (s, [l535])
  | 9 => if s.tx.isSome then (s, [l503]) else if c.size < (k.size : Int) then (s, [l552]) else ({ s with tx := some ⟨k.name, [], none⟩ }, [l250])
  | 10 => (match s.tx with | some t => ({ s with tx := some { t with tos := rcptTos t.tos c.most (s.nets || s.known || domOk c k.name) k.name } }, [rcptSays t.tos c.most (s.nets || s.known || domOk c k.name) k.name]) | none => (s, []))
  | _ => (s, [])

/-- behind a step -/
def StepPost (A : Nat → Prop) (pp pb sb ch : Nat) (vw : Value) (w : World) (s' : PSes) (ls' : List (List UInt8)) (e : Ending) (w' : World) : Prop :=
  e = .returned (.tuple #[]) ∧ ∃ A', SesIn w' A' pp pb sb ch vw ls' s' ∧ (∀ k, A k → A' k) ∧ (∀ k, A' k → A k ∨ w.heap.size ≤ k) ∧ Chg A w w'
theorem StepPost.from {A : Nat → Prop} {pp pb sb ch : Nat} {vw : Value} {w w0 w' : World} {s' : PSes} {ls' : List (List UInt8)} {e : Ending} (hb : Below w.heap.size w w0) (h : StepPost A pp pb sb ch vw w0 s' ls' e w') : StepPost A pp pb sb ch vw w s' ls' e w' := by
  obtain ⟨e1, A', h1, h2, h3, h4⟩ := h
  exact ⟨e1, A', h1, h2, fun k hk => (h3 k hk).imp id (fun e => Nat.le_trans hb.size e), (Chg.below hb : Chg A w w0).trans h4 (fun k _ e => e)⟩
section
variable {A : Nat → Prop} {pp pb sb ch : Nat} {vw : Value} {w : World} {s : PSes}
theorem SesIn.told1 (h : SesIn w A pp pb sb ch vw [] s) (l : List UInt8) (hz : l.length ≤ 1048576) : Calls Tryz.prog 23 #[.pointer (some ⟨sb, 0, none⟩), .string (bs l)] w (StepPost A pp pb sb ch vw w s [l ++ [13, 10]]) := by
  refine (h.tell (by simp) l hz).mono ?_
  rintro e w' ⟨rfl, h1, h2⟩
  exact ⟨rfl, A, h1, fun _ a => a, fun _ a => .inl a, h2⟩
theorem step_of {w' : World} {s' : PSes} {ls' : List (List UInt8)} {C : Array Value} {vx' : Value} (h : SesIn w A pp pb sb ch vw [] s) (h0 : SesAt w sb ch C []) (hc : Chg (fun k => k = sb ∨ k = ch) w w') (h1 : SesAt w' sb ch (sesCells pp pb ch vw vx' s') ls') (hx : TxIn w A vx' s'.tx) : StepPost A pp pb sb ch vw w s' ls' (.returned (.tuple #[])) w' :=
  ⟨rfl, A, ⟨⟨vx', h1, hx.off hc (fun k C t z _ e ht => ses_off h0 k C t z e ht)⟩, h.asb, h.ach, fun k hk => Nat.lt_of_lt_of_le (h.lt k hk) hc.size⟩, fun _ a => a, fun _ a => .inl a, hc.mono (fun k _ e => by rcases e with e | e <;> rw [e]; exact h.asb; exact h.ach)⟩
theorem chg_two {w' : World} (h1 : ∀ k, k < w.heap.size → k ≠ sb → k ≠ ch → w'.heap[k]? = w.heap[k]?) (h2 : Still w w') (h3 : w.heap.size ≤ w'.heap.size) : Chg (fun k => k = sb ∨ k = ch) w w' := ⟨h3, fun k hk hn => h1 k hk (fun e => hn (.inl e)) (fun e => hn (.inr e)), h2⟩
theorem SesIn.quit (h : SesIn w A pp pb sb ch vw [] s) : Calls Tryz.prog 75 #[.pointer (some ⟨sb, 0, none⟩)] w (StepPost A pp pb sb ch vw w { s with over := true } [l221]) := by
  obtain ⟨vx, h1, h2⟩ := h.ex
  refine (quit_any sb ch _ w h1).mono ?_
  rintro e w' ⟨rfl, h3, h4⟩
  exact step_of h h1 h4 (s' := { s with over := true }) h3 h2
theorem SesIn.reset (h : SesIn w A pp pb sb ch vw [] s) : Calls Tryz.prog 76 #[.pointer (some ⟨sb, 0, none⟩)] w (StepPost A pp pb sb ch vw w { s with tx := none } [l250]) := by
  obtain ⟨vx, h1, h2⟩ := h.ex
  refine (reset_any sb ch _ w h1).mono ?_
  rintro e w' ⟨rfl, h3, h4, h5, h6⟩
  exact step_of h h1 (chg_two (fun k _ => h4 k) h5 (Nat.le_of_eq h6.symm)) (s' := { s with tx := none }) (vx' := .pointer none) h3 rfl
variable {E : Nat → Prop} {c : Cfg}
theorem bs_host (c : Cfg) : bs (hostOf c) = c.host := rfl
theorem EnvAt.host (he : EnvAt E w pp c) : w.cell? ⟨pp, 0, none⟩ = some (.string (bs (hostOf c))) ∧ (hostOf c).length ≤ 255 := by
  obtain ⟨vD, vN, vU, vW, h1, _⟩ := he.set
  refine ⟨(h1.cell 0 (by decide)).trans rfl, ?_⟩
  have := h1.small.host
  have e := bs_size (hostOf c)
  rw [bs_host] at e
  omega
theorem SesIn.greet (h : SesIn w A pp pb sb ch vw [] s) (he : EnvAt E w pp c) (hd : ∀ k, E k → ¬ A k) : Calls Tryz.prog 77 #[.pointer (some ⟨sb, 0, none⟩)] w (StepPost A pp pb sb ch vw w { s with greeted := true, tx := none } [[50, 53, 48, 32] ++ hostOf c ++ [13, 10]]) := by
  obtain ⟨vx, h1, h2⟩ := h.ex
  refine (greet_any sb ch pp _ (hostOf c) w h1 rfl he.host.1 (fun e => hd pp he.epp (by rw [e]; exact h.asb)) he.host.2).mono ?_
  rintro e w' ⟨rfl, h3, h4, h5, h6⟩
  exact step_of h h1 (chg_two (fun k _ => h4 k) h5 (Nat.le_of_eq h6.symm)) (s' := { s with greeted := true, tx := none }) (vx' := .pointer none) h3 rfl
theorem may_nums (h : mayB c = true) : (1 ≤ c.most ∧ c.most ≤ 10) ∧ (1 ≤ c.size ∧ c.size ≤ 1000) ∧ 0 ≤ c.room ∧ c.room ≤ 1000000 := by
  unfold mayB within at h
  simp only [Bool.and_eq_true, decide_eq_true_eq] at h
  obtain ⟨⟨⟨⟨⟨⟨⟨⟨_, _⟩, _⟩, _⟩, h1⟩, h2⟩, _⟩, _⟩, h3⟩ := h
  exact ⟨h1, h2, h3⟩
theorem SesIn.more (h : SesIn w A pp pb sb ch vw [] s) (he : EnvAt E w pp c) (hd : ∀ k, E k → ¬ A k) : Calls Tryz.prog 78 #[.pointer (some ⟨sb, 0, none⟩)] w (StepPost A pp pb sb ch vw w { s with greeted := true, tx := none } [[50, 53, 48, 45] ++ hostOf c ++ [13, 10], [50, 53, 48, 45, 83, 73, 90, 69, 32] ++ Lib.itoa c.size ++ [13, 10], [50, 53, 48, 32, 65, 85, 84, 72, 32, 80, 76, 65, 73, 78, 13, 10]]) := by
  obtain ⟨vx, h1, h2⟩ := h.ex
  obtain ⟨vD, vN, vU, vW, hs, _⟩ := he.set
  have hn := may_nums he.may
  refine (greetMore_any sb ch pp _ (hostOf c) c.size w h1 rfl he.host.1 ((hs.cell 5 (by decide)).trans rfl) (fun e => hd pp he.epp (by rw [e]; exact h.asb)) (fun e => hd pp he.epp (by rw [e]; exact h.ach)) he.host.2 he.pow (fun e => hd _ he.epow (by rw [← e]; exact h.asb)) (fun e => hd _ he.epow (by rw [← e]; exact h.ach)) (by omega) (by omega)).mono ?_
  rintro e w' ⟨rfl, h3, h4⟩
  exact step_of h h1 h4 (s' := { s with greeted := true, tx := none }) (vx' := .pointer none) h3 rfl
end
end Go.Proofs.YtadcidbeealdpaaGreatDoor

/- A session's steps: AUTH, MAIL, RCPT, DATA. -/
namespace Go.Proofs.YtadcidbeealdpaaGreatDoor
open Go.RowKit

section
variable {A : Nat → Prop} {pp pb sb ch : Nat} {vw : Value} {w : World} {s : PSes} {E : Nat → Prop} {c : Cfg}
theorem same_ch {w' : World} (h : Same ch w w') : Chg (fun k => k = sb ∨ k = ch) w w' := (Chg.same h).mono (fun _ _ e => .inr e)
theorem TxIn.ptr {vx : Value} {o : Option PTx} (h : TxIn w A vx o) (ho : o.isSome = true) : ∃ tb, vx = .pointer (some ⟨tb, 0, none⟩) := by
  cases o with
  | none => cases ho
  | some t => obtain ⟨tb, _, _, e, _⟩ := h; exact ⟨tb, e⟩
theorem TxIn.nil {vx : Value} {o : Option PTx} (h : TxIn w A vx o) (ho : o.isSome = false) : vx = .pointer none := by
  cases o with
  | none => exact h
  | some t => cases ho
def knowS (c : Cfg) (s : PSes) (shown : List UInt8) : PSes × List (List UInt8) := if s.tx.isSome || s.known then (s, [l503]) else if c.users.any (isUser (bs shown)) then ({ s with known := true }, [l235]) else (s, [l535])
theorem SesIn.know (h : SesIn w A pp pb sb ch vw [] s) (he : EnvAt E w pp c) (shown : List UInt8) : Calls Tryz.prog 79 #[.pointer (some ⟨sb, 0, none⟩), .string (bs shown)] w (StepPost A pp pb sb ch vw w (knowS c s shown).1 (knowS c s shown).2) := by
  obtain ⟨vx, h1, h2⟩ := h.ex
  obtain ⟨vD, vN, vU, vW, hs, _⟩ := he.set
  unfold knowS
  cases ht : s.tx.isSome with
  | true =>
    obtain ⟨tb, rfl⟩ := h2.ptr ht
    refine (know_busy sb ch tb _ (bs shown) w h1 rfl).mono ?_
    rintro e w' ⟨rfl, h3, h4⟩
    exact step_of h h1 (same_ch h4) (s' := s) h3 h2
  | false =>
    have hn := h2.nil ht
    subst hn
    cases hk : s.known with
    | true =>
      refine (know_again sb ch _ (bs shown) w h1 rfl (by rw [← hk]; rfl)).mono ?_
      rintro e w' ⟨rfl, h3, h4⟩
      exact step_of h h1 (same_ch h4) (s' := s) h3 h2
    | false =>
      refine (know_any sb ch pp _ c vD vN vU vW (bs shown) w h1 hs rfl rfl (by rw [← hk]; rfl)).mono ?_
      rintro e w' ⟨rfl, h3, h4, h5, h6⟩
      cases hu : c.users.any (isUser (bs shown)) with
      | true =>
        rw [hu] at h3
        exact step_of h h1 (chg_two h4 h5 h6) (s' := { s with known := true }) h3 h2
      | false =>
        rw [hu] at h3
        exact step_of h h1 (chg_two h4 h5 h6) (s' := s) h3 h2
def mailS1 (c : Cfg) (s : PSes) (name : List UInt8) (size : Int) : PSes × List (List UInt8) := if s.tx.isSome then (s, [l503]) else if c.size < size then (s, [l552]) else ({ s with tx := some ⟨name, [], none⟩ }, [l250])
theorem SesIn.mail (h : SesIn w A pp pb sb ch vw [] s) (he : EnvAt E w pp c) (name : List UInt8) (size : Int) : Calls Tryz.prog 80 #[.pointer (some ⟨sb, 0, none⟩), .string (bs name), .int .i64 size] w (StepPost A pp pb sb ch vw w (mailS1 c s name size).1 (mailS1 c s name size).2) := by
  obtain ⟨vx, h1, h2⟩ := h.ex
  obtain ⟨vD, vN, vU, vW, hs, _⟩ := he.set
  unfold mailS1
  cases ht : s.tx.isSome with
  | true =>
    obtain ⟨tb, rfl⟩ := h2.ptr ht
    refine (beginTx_busy sb ch tb _ name size w h1 rfl).mono ?_
    rintro e w' ⟨rfl, h3, h4⟩
    exact step_of h h1 (same_ch h4) (s' := s) h3 h2
  | false =>
    have hn := h2.nil ht
    subst hn
    by_cases hlt : c.size < size
    · simp only [hlt, if_true]
      refine (beginTx_long sb ch pp _ name size c.size w h1 rfl rfl ((hs.cell 5 (by decide)).trans rfl) hlt).mono ?_
      rintro e w' ⟨rfl, h3, h4⟩
      exact step_of h h1 (same_ch h4) (s' := s) h3 h2
    · simp only [hlt, if_false]
      refine (beginTx_any sb ch pp _ name size c.size w h1 rfl rfl ((hs.cell 5 (by decide)).trans rfl) hlt).mono ?_
      rintro e w' ⟨rfl, h3, hx, h4, h5, h6⟩
      have hlt' : w.heap.size < w'.heap.size := heap_some_lt hx
      refine ⟨rfl, fun k => A k ∨ k = w.heap.size, ⟨⟨_, h3, w.heap.size, .slice none 0 0, .pointer none, rfl, .inr rfl, ⟨hx, rfl, .inl ⟨rfl, rfl⟩⟩, (fun g e => by cases e), rfl⟩, .inl h.asb, .inl h.ach, fun k hk => ?_⟩, fun _ a => .inl a, fun k hk => hk.imp id (fun e => Nat.le_of_eq e.symm), (chg_two h4 h5 h6).mono (fun k _ e => by rcases e with e | e <;> rw [e]; exact h.asb; exact h.ach)⟩
      rcases hk with hk | hk
      · have := h.lt k hk; omega
      · omega
theorem SesIn.rcpt (h : SesIn w A pp pb sb ch vw [] s) (he : EnvAt E w pp c) {t : PTx} (ht : s.tx = some t) (hnb : t.body = none) (name : List UInt8) (hn : name.length ≤ 1048576) (hl : t.tos.length ≤ 10) :
    Calls Tryz.prog 81 #[.pointer (some ⟨sb, 0, none⟩), .string (bs name)] w (StepPost A pp pb sb ch vw w { s with tx := some { t with tos := rcptTos t.tos c.most (s.nets || s.known || domOk c name) name } } [rcptSays t.tos c.most (s.nets || s.known || domOk c name) name]) := by
  obtain ⟨vx, h1, h2⟩ := h.ex
  obtain ⟨vD, vN, vU, vW, hs, _⟩ := he.set
  obtain ⟨m, hm⟩ := he.len
  rw [ht] at h2
  obtain ⟨tb, vt, vb, rfl, ha, hT, hO, hB⟩ := h2
  rw [hnb] at hB
  refine (addRcpt_any sb ch pp tb _ c vD vN vU vW vt vb s.nets s.known t.frm name t.tos m w h1 hs hT rfl rfl rfl rfl hn hl hm).mono ?_
  rintro e w' ⟨rfl, h3, vt', h4, h5, h6⟩
  have hv : ∀ g, vt'.ownBlock = some g → g < w'.heap.size := fun g hg => by
    obtain ⟨cur, hq⟩ := own_tag' h4.row hg
    exact heap_some_lt hq
  refine ⟨rfl, fun k => A k ∨ vt'.ownBlock = some k, ⟨⟨_, h3, tb, vt', vb, rfl, .inl ha, h4, fun g hg => .inr hg, ?_⟩, .inl h.asb, .inl h.ach, fun k hk => ?_⟩, fun _ a => .inl a, fun k hk => ?_, h5.mono (fun k _ e => ?_)⟩
  · show BodIn w' _ vb t.body
    rw [hnb]
    exact hB
  · rcases hk with hk | hk
    · exact Nat.lt_of_lt_of_le (h.lt k hk) h5.size
    · exact hv k hk
  · rcases hk with hk | hk
    · exact .inl hk
    · exact (h6 k hk).imp (hO k) id
  · rcases e with e | e | e
    · rw [e]; exact h.ach
    · rw [e]; exact ha
    · exact hO k e
theorem SesIn.data (h : SesIn w A pp pb sb ch vw [] s) {t : PTx} (ht : s.tx = some t) :
    Calls Tryz.prog 82 #[.pointer (some ⟨sb, 0, none⟩)] w (StepPost A pp pb sb ch vw w { s with tx := some { t with body := some ⟨[], false, false⟩ } } [l354]) := by
  obtain ⟨vx, h1, h2⟩ := h.ex
  rw [ht] at h2
  obtain ⟨tb, vt, vb, rfl, ha, hT, hO, hB⟩ := h2
  refine (beginBody_any sb ch tb _ _ vt vb w h1 rfl hT.blk).mono ?_
  rintro e w' ⟨rfl, h3, h4, h5, h6, h7, h8⟩
  have hc : Chg (fun k => k = tb ∨ k = ch) w w' := ⟨h8, fun k hk hn => h6 k hk (fun e => hn (.inl e)) (fun e => hn (.inr e)), h7⟩
  have hlt' : w.heap.size < w'.heap.size := heap_some_lt h5
  refine ⟨rfl, fun k => A k ∨ k = w.heap.size, ⟨⟨_, h3, tb, vt, _, rfl, .inl ha, ⟨h4, own_chg hT.row hc (fun g hg e => ?_)⟩, fun g hg => .inl (hO g hg), w.heap.size, .slice none 0 0, rfl, .inr rfl, ⟨h5, World.ownsRowF_nil _ _ _ _⟩, (fun g e => by cases e)⟩, .inl h.asb, .inl h.ach, fun k hk => ?_⟩, fun _ a => .inl a, fun k hk => hk.imp id (fun e => Nat.le_of_eq e.symm), hc.mono (fun k _ e => ?_)⟩
  · rcases e with e | e
    · exact hT.far (by rw [← e]; exact hg)
    · obtain ⟨cur, hq⟩ := own_tag' hT.row hg
      obtain ⟨sq, r, hcc⟩ := h1.chan
      rw [e, hcc] at hq
      cases hq
  · rcases hk with hk | hk
    · have := h.lt k hk; omega
    · omega
  · rcases e with e | e <;> rw [e]
    · exact ha
    · exact h.ach
end
end Go.Proofs.YtadcidbeealdpaaGreatDoor

/- A command is obeyed. -/
namespace Go.Proofs.YtadcidbeealdpaaGreatDoor
open Go.RowKit

section
variable {A : Nat → Prop} {pp pb sb ch : Nat} {vw : Value} {w : World} {s : PSes} {E : Nat → Prop} {c : Cfg} {ls : List (List UInt8)}
theorem SesIn.ready (h : SesIn w A pp pb sb ch vw ls s) (verb : Nat) : Calls Tryz.prog 74 #[.pointer (some ⟨sb, 0, none⟩), .int .i64 (verb : Int)] w fun e w' => e = .returned (.bool (readyS s verb)) ∧ w = w' := by
  obtain ⟨vx, h1, h2⟩ := h.ex
  unfold readyS
  cases ht : s.tx with
  | none =>
    rw [ht] at h2
    have h2 : vx = .pointer none := h2
    subst h2
    exact ready_none sb ch _ ls verb s.greeted w h1 rfl rfl
  | some t =>
    rw [ht] at h2
    obtain ⟨tb, vt, vb, rfl, ha, hT, hO, hB⟩ := h2
    obtain ⟨a, cp, ev⟩ := slice_of (row_of_own' hT.row)
    exact ready_some sb ch tb t.tos.length cp a _ ls verb s.greeted w h1 rfl rfl ((hT.cell 1).trans (by rw [ev]; rfl))
theorem StepPost.ret {w' : World} {s' : PSes} {ls' : List (List UInt8)} {e : Ending} (h : StepPost A pp pb sb ch vw w s' ls' e w') : e = .returned (.tuple #[]) := h.1

set_option maxHeartbeats 1000000 in
set_option maxRecDepth 100000 in
theorem obey_first (h : SesIn w A pp pb sb ch vw [] s) (he : EnvAt E w pp c) (_hd : ∀ k, E k → ¬ A k) (name shown : List UInt8) (size : Nat) (verb : Nat) (hr : readyS s verb = false) :
    Calls Tryz.prog 47 #[.pointer (some ⟨sb, 0, none⟩), .agg #[.int .i64 (verb : Int), .string (bs name), .int .i64 (size : Int), .string (bs shown)]] w (StepPost A pp pb sb ch vw w s [l503]) := by
  obtain ⟨W0, hW0⟩ : ∃ W0 : World, w.alloc (.cells #[.int .i64 (verb : Int), .string (bs name), .int .i64 (size : Int), .string (bs shown)] 123) = W0 := ⟨_, rfl⟩
  have B0 : Below w.heap.size w W0 := by rw [← hW0]; exact (Below.refl _ _).alloc (Nat.le_refl _) _
  have X0 : W0.heap[w.heap.size]? = some (.cells #[.int .i64 (verb : Int), .string (bs name), .int .i64 (size : Int), .string (bs shown)] 123 (0, 0)) := by rw [← hW0]; exact heap_alloc_new w _
  have e0 : W0.cell? ⟨w.heap.size, 0, none⟩ = some (.int .i64 (verb : Int)) := by rw [Lib.cell_of_heap X0]; rfl
  have e1 : W0.cell? ⟨w.heap.size, 1, none⟩ = some (.string (bs name)) := by rw [Lib.cell_of_heap X0]; rfl
  have e2 : W0.cell? ⟨w.heap.size, 2, none⟩ = some (.int .i64 (size : Int)) := by rw [Lib.cell_of_heap X0]; rfl
  have e3 : W0.cell? ⟨w.heap.size, 3, none⟩ = some (.string (bs shown)) := by rw [Lib.cell_of_heap X0]; rfl
  have h0 := h.below B0
  have he0 := he.below B0
  have HRD : Hid (Calls Tryz.prog 74 #[.pointer (some ⟨sb, 0, none⟩), .int .i64 (verb : Int)] W0 fun e w' => e = .returned (.bool false) ∧ W0 = w') := Lib.hid (by rw [← hr]; exact h0.ready verb)
  have HT := Lib.hid (h0.told1 [53, 48, 51, 32, 102, 105, 114, 115, 116] (by decide))
  have HB0 := Lib.hid B0
  clear h he h0 he0 B0 X0 _hd
  go_enter Tryz.func47, Tryz.ntmps47
  go_wp2_with fail
  refine HRD.out.mono ?_
  rintro e w1 ⟨rfl, rfl⟩
  go_wp2_with fail
  refine HT.out.mono ?_
  rintro e w2 hP
  have hr := hP.ret
  subst hr
  have HP := Lib.hid hP
  clear hP
  go_wp2_with fail
  refine bodyPost_ret (v := .tuple #[]) (by simp [results, Tryz.results47, go_sem]) rfl ?_
  exact StepPost.from HB0.out HP.out

set_option maxHeartbeats 1000000 in
set_option maxRecDepth 100000 in
theorem obey_v0 (h : SesIn w A pp pb sb ch vw [] s) (he : EnvAt E w pp c) (_hd : ∀ k, E k → ¬ A k) (name shown : List UInt8) (size : Nat) (hr : readyS s 0 = true) :
    Calls Tryz.prog 47 #[.pointer (some ⟨sb, 0, none⟩), .agg #[.int .i64 0, .string (bs name), .int .i64 (size : Int), .string (bs shown)]] w (StepPost A pp pb sb ch vw w (s) ([l500])) := by
  obtain ⟨W0, hW0⟩ : ∃ W0 : World, w.alloc (.cells #[.int .i64 0, .string (bs name), .int .i64 (size : Int), .string (bs shown)] 123) = W0 := ⟨_, rfl⟩
  have B0 : Below w.heap.size w W0 := by rw [← hW0]; exact (Below.refl _ _).alloc (Nat.le_refl _) _
  have X0 : W0.heap[w.heap.size]? = some (.cells #[.int .i64 0, .string (bs name), .int .i64 (size : Int), .string (bs shown)] 123 (0, 0)) := by rw [← hW0]; exact heap_alloc_new w _
  have e0 : W0.cell? ⟨w.heap.size, 0, none⟩ = some (.int .i64 0) := by rw [Lib.cell_of_heap X0]; rfl
  have e1 : W0.cell? ⟨w.heap.size, 1, none⟩ = some (.string (bs name)) := by rw [Lib.cell_of_heap X0]; rfl
  have e2 : W0.cell? ⟨w.heap.size, 2, none⟩ = some (.int .i64 (size : Int)) := by rw [Lib.cell_of_heap X0]; rfl
  have e3 : W0.cell? ⟨w.heap.size, 3, none⟩ = some (.string (bs shown)) := by rw [Lib.cell_of_heap X0]; rfl
  have h0 := h.below B0
  have he0 := he.below B0
  have HRD : Hid (Calls Tryz.prog 74 #[.pointer (some ⟨sb, 0, none⟩), .int .i64 0] W0 fun e w' => e = .returned (.bool true) ∧ W0 = w') := Lib.hid (by rw [← hr]; exact h0.ready 0)
  have HT := Lib.hid (h0.told1 [53, 48, 48, 32, 119, 104, 97, 116] (by decide))
  have HB0 := Lib.hid B0
  clear h he h0 he0 B0 X0 _hd
  go_enter Tryz.func47, Tryz.ntmps47
  go_wp2_with fail
  refine HRD.out.mono ?_
  rintro e w1 ⟨rfl, rfl⟩
  go_wp2_with fail
  refine HT.out.mono ?_
  rintro e w2 hP
  have hr := hP.ret
  subst hr
  have HP := Lib.hid hP
  clear hP
  go_wp2_with fail
  refine bodyPost_end (results_none rfl _ _ _) rfl ?_
  exact StepPost.from HB0.out HP.out

set_option maxHeartbeats 1000000 in
set_option maxRecDepth 100000 in
theorem obey_v1 (h : SesIn w A pp pb sb ch vw [] s) (he : EnvAt E w pp c) (_hd : ∀ k, E k → ¬ A k) (name shown : List UInt8) (size : Nat) (hr : readyS s 1 = true) :
    Calls Tryz.prog 47 #[.pointer (some ⟨sb, 0, none⟩), .agg #[.int .i64 1, .string (bs name), .int .i64 (size : Int), .string (bs shown)]] w (StepPost A pp pb sb ch vw w (s) ([l501])) := by
  obtain ⟨W0, hW0⟩ : ∃ W0 : World, w.alloc (.cells #[.int .i64 1, .string (bs name), .int .i64 (size : Int), .string (bs shown)] 123) = W0 := ⟨_, rfl⟩
  have B0 : Below w.heap.size w W0 := by rw [← hW0]; exact (Below.refl _ _).alloc (Nat.le_refl _) _
  have X0 : W0.heap[w.heap.size]? = some (.cells #[.int .i64 1, .string (bs name), .int .i64 (size : Int), .string (bs shown)] 123 (0, 0)) := by rw [← hW0]; exact heap_alloc_new w _
  have e0 : W0.cell? ⟨w.heap.size, 0, none⟩ = some (.int .i64 1) := by rw [Lib.cell_of_heap X0]; rfl
  have e1 : W0.cell? ⟨w.heap.size, 1, none⟩ = some (.string (bs name)) := by rw [Lib.cell_of_heap X0]; rfl
  have e2 : W0.cell? ⟨w.heap.size, 2, none⟩ = some (.int .i64 (size : Int)) := by rw [Lib.cell_of_heap X0]; rfl
  have e3 : W0.cell? ⟨w.heap.size, 3, none⟩ = some (.string (bs shown)) := by rw [Lib.cell_of_heap X0]; rfl
  have h0 := h.below B0
  have he0 := he.below B0
  have HRD : Hid (Calls Tryz.prog 74 #[.pointer (some ⟨sb, 0, none⟩), .int .i64 1] W0 fun e w' => e = .returned (.bool true) ∧ W0 = w') := Lib.hid (by rw [← hr]; exact h0.ready 1)
  have HT := Lib.hid (h0.told1 [53, 48, 49, 32, 104, 111, 119] (by decide))
  have HB0 := Lib.hid B0
  clear h he h0 he0 B0 X0 _hd
  go_enter Tryz.func47, Tryz.ntmps47
  go_wp2_with fail
  refine HRD.out.mono ?_
  rintro e w1 ⟨rfl, rfl⟩
  go_wp2_with fail
  refine HT.out.mono ?_
  rintro e w2 hP
  have hr := hP.ret
  subst hr
  have HP := Lib.hid hP
  clear hP
  go_wp2_with fail
  refine bodyPost_end (results_none rfl _ _ _) rfl ?_
  exact StepPost.from HB0.out HP.out

set_option maxHeartbeats 1000000 in
set_option maxRecDepth 100000 in
theorem obey_v2 (h : SesIn w A pp pb sb ch vw [] s) (he : EnvAt E w pp c) (_hd : ∀ k, E k → ¬ A k) (name shown : List UInt8) (size : Nat) (hr : readyS s 2 = true) :
    Calls Tryz.prog 47 #[.pointer (some ⟨sb, 0, none⟩), .agg #[.int .i64 2, .string (bs name), .int .i64 (size : Int), .string (bs shown)]] w (StepPost A pp pb sb ch vw w ({ s with over := true }) ([l221])) := by
  obtain ⟨W0, hW0⟩ : ∃ W0 : World, w.alloc (.cells #[.int .i64 2, .string (bs name), .int .i64 (size : Int), .string (bs shown)] 123) = W0 := ⟨_, rfl⟩
  have B0 : Below w.heap.size w W0 := by rw [← hW0]; exact (Below.refl _ _).alloc (Nat.le_refl _) _
  have X0 : W0.heap[w.heap.size]? = some (.cells #[.int .i64 2, .string (bs name), .int .i64 (size : Int), .string (bs shown)] 123 (0, 0)) := by rw [← hW0]; exact heap_alloc_new w _
  have e0 : W0.cell? ⟨w.heap.size, 0, none⟩ = some (.int .i64 2) := by rw [Lib.cell_of_heap X0]; rfl
  have e1 : W0.cell? ⟨w.heap.size, 1, none⟩ = some (.string (bs name)) := by rw [Lib.cell_of_heap X0]; rfl
  have e2 : W0.cell? ⟨w.heap.size, 2, none⟩ = some (.int .i64 (size : Int)) := by rw [Lib.cell_of_heap X0]; rfl
  have e3 : W0.cell? ⟨w.heap.size, 3, none⟩ = some (.string (bs shown)) := by rw [Lib.cell_of_heap X0]; rfl
  have h0 := h.below B0
  have he0 := he.below B0
  have HRD : Hid (Calls Tryz.prog 74 #[.pointer (some ⟨sb, 0, none⟩), .int .i64 2] W0 fun e w' => e = .returned (.bool true) ∧ W0 = w') := Lib.hid (by rw [← hr]; exact h0.ready 2)
  have HT := Lib.hid (h0.quit)
  have HB0 := Lib.hid B0
  clear h he h0 he0 B0 X0 _hd
  go_enter Tryz.func47, Tryz.ntmps47
  go_wp2_with fail
  refine HRD.out.mono ?_
  rintro e w1 ⟨rfl, rfl⟩
  go_wp2_with fail
  refine HT.out.mono ?_
  rintro e w2 hP
  have hr := hP.ret
  subst hr
  have HP := Lib.hid hP
  clear hP
  go_wp2_with fail
  refine bodyPost_end (results_none rfl _ _ _) rfl ?_
  exact StepPost.from HB0.out HP.out

set_option maxHeartbeats 1000000 in
set_option maxRecDepth 100000 in
theorem obey_v3 (h : SesIn w A pp pb sb ch vw [] s) (he : EnvAt E w pp c) (_hd : ∀ k, E k → ¬ A k) (name shown : List UInt8) (size : Nat) (hr : readyS s 3 = true) :
    Calls Tryz.prog 47 #[.pointer (some ⟨sb, 0, none⟩), .agg #[.int .i64 3, .string (bs name), .int .i64 (size : Int), .string (bs shown)]] w (StepPost A pp pb sb ch vw w (s) ([l250])) := by
  obtain ⟨W0, hW0⟩ : ∃ W0 : World, w.alloc (.cells #[.int .i64 3, .string (bs name), .int .i64 (size : Int), .string (bs shown)] 123) = W0 := ⟨_, rfl⟩
  have B0 : Below w.heap.size w W0 := by rw [← hW0]; exact (Below.refl _ _).alloc (Nat.le_refl _) _
  have X0 : W0.heap[w.heap.size]? = some (.cells #[.int .i64 3, .string (bs name), .int .i64 (size : Int), .string (bs shown)] 123 (0, 0)) := by rw [← hW0]; exact heap_alloc_new w _
  have e0 : W0.cell? ⟨w.heap.size, 0, none⟩ = some (.int .i64 3) := by rw [Lib.cell_of_heap X0]; rfl
  have e1 : W0.cell? ⟨w.heap.size, 1, none⟩ = some (.string (bs name)) := by rw [Lib.cell_of_heap X0]; rfl
  have e2 : W0.cell? ⟨w.heap.size, 2, none⟩ = some (.int .i64 (size : Int)) := by rw [Lib.cell_of_heap X0]; rfl
  have e3 : W0.cell? ⟨w.heap.size, 3, none⟩ = some (.string (bs shown)) := by rw [Lib.cell_of_heap X0]; rfl
  have h0 := h.below B0
  have he0 := he.below B0
  have HRD : Hid (Calls Tryz.prog 74 #[.pointer (some ⟨sb, 0, none⟩), .int .i64 3] W0 fun e w' => e = .returned (.bool true) ∧ W0 = w') := Lib.hid (by rw [← hr]; exact h0.ready 3)
  have HT := Lib.hid (h0.told1 [50, 53, 48, 32, 111, 107] (by decide))
  have HB0 := Lib.hid B0
  clear h he h0 he0 B0 X0 _hd
  go_enter Tryz.func47, Tryz.ntmps47
  go_wp2_with fail
  refine HRD.out.mono ?_
  rintro e w1 ⟨rfl, rfl⟩
  go_wp2_with fail
  refine HT.out.mono ?_
  rintro e w2 hP
  have hr := hP.ret
  subst hr
  have HP := Lib.hid hP
  clear hP
  go_wp2_with fail
  refine bodyPost_end (results_none rfl _ _ _) rfl ?_
  exact StepPost.from HB0.out HP.out

set_option maxHeartbeats 1000000 in
set_option maxRecDepth 100000 in
theorem obey_v4 (h : SesIn w A pp pb sb ch vw [] s) (he : EnvAt E w pp c) (_hd : ∀ k, E k → ¬ A k) (name shown : List UInt8) (size : Nat) (hr : readyS s 4 = true) :
    Calls Tryz.prog 47 #[.pointer (some ⟨sb, 0, none⟩), .agg #[.int .i64 4, .string (bs name), .int .i64 (size : Int), .string (bs shown)]] w (StepPost A pp pb sb ch vw w ({ s with tx := none }) ([l250])) := by
  obtain ⟨W0, hW0⟩ : ∃ W0 : World, w.alloc (.cells #[.int .i64 4, .string (bs name), .int .i64 (size : Int), .string (bs shown)] 123) = W0 := ⟨_, rfl⟩
  have B0 : Below w.heap.size w W0 := by rw [← hW0]; exact (Below.refl _ _).alloc (Nat.le_refl _) _
  have X0 : W0.heap[w.heap.size]? = some (.cells #[.int .i64 4, .string (bs name), .int .i64 (size : Int), .string (bs shown)] 123 (0, 0)) := by rw [← hW0]; exact heap_alloc_new w _
  have e0 : W0.cell? ⟨w.heap.size, 0, none⟩ = some (.int .i64 4) := by rw [Lib.cell_of_heap X0]; rfl
  have e1 : W0.cell? ⟨w.heap.size, 1, none⟩ = some (.string (bs name)) := by rw [Lib.cell_of_heap X0]; rfl
  have e2 : W0.cell? ⟨w.heap.size, 2, none⟩ = some (.int .i64 (size : Int)) := by rw [Lib.cell_of_heap X0]; rfl
  have e3 : W0.cell? ⟨w.heap.size, 3, none⟩ = some (.string (bs shown)) := by rw [Lib.cell_of_heap X0]; rfl
  have h0 := h.below B0
  have he0 := he.below B0
  have HRD : Hid (Calls Tryz.prog 74 #[.pointer (some ⟨sb, 0, none⟩), .int .i64 4] W0 fun e w' => e = .returned (.bool true) ∧ W0 = w') := Lib.hid (by rw [← hr]; exact h0.ready 4)
  have HT := Lib.hid (h0.reset)
  have HB0 := Lib.hid B0
  clear h he h0 he0 B0 X0 _hd
  go_enter Tryz.func47, Tryz.ntmps47
  go_wp2_with fail
  refine HRD.out.mono ?_
  rintro e w1 ⟨rfl, rfl⟩
  go_wp2_with fail
  refine HT.out.mono ?_
  rintro e w2 hP
  have hr := hP.ret
  subst hr
  have HP := Lib.hid hP
  clear hP
  go_wp2_with fail
  refine bodyPost_end (results_none rfl _ _ _) rfl ?_
  exact StepPost.from HB0.out HP.out

set_option maxHeartbeats 1000000 in
set_option maxRecDepth 100000 in
theorem obey_v5 (h : SesIn w A pp pb sb ch vw [] s) (he : EnvAt E w pp c) (_hd : ∀ k, E k → ¬ A k) (name shown : List UInt8) (size : Nat) {t : PTx} (ht : s.tx = some t) (hr : readyS s 5 = true) :
    Calls Tryz.prog 47 #[.pointer (some ⟨sb, 0, none⟩), .agg #[.int .i64 5, .string (bs name), .int .i64 (size : Int), .string (bs shown)]] w (StepPost A pp pb sb ch vw w ({ s with tx := some { t with body := some ⟨[], false, false⟩ } }) ([l354])) := by
  obtain ⟨W0, hW0⟩ : ∃ W0 : World, w.alloc (.cells #[.int .i64 5, .string (bs name), .int .i64 (size : Int), .string (bs shown)] 123) = W0 := ⟨_, rfl⟩
  have B0 : Below w.heap.size w W0 := by rw [← hW0]; exact (Below.refl _ _).alloc (Nat.le_refl _) _
  have X0 : W0.heap[w.heap.size]? = some (.cells #[.int .i64 5, .string (bs name), .int .i64 (size : Int), .string (bs shown)] 123 (0, 0)) := by rw [← hW0]; exact heap_alloc_new w _
  have e0 : W0.cell? ⟨w.heap.size, 0, none⟩ = some (.int .i64 5) := by rw [Lib.cell_of_heap X0]; rfl
  have e1 : W0.cell? ⟨w.heap.size, 1, none⟩ = some (.string (bs name)) := by rw [Lib.cell_of_heap X0]; rfl
  have e2 : W0.cell? ⟨w.heap.size, 2, none⟩ = some (.int .i64 (size : Int)) := by rw [Lib.cell_of_heap X0]; rfl
  have e3 : W0.cell? ⟨w.heap.size, 3, none⟩ = some (.string (bs shown)) := by rw [Lib.cell_of_heap X0]; rfl
  have h0 := h.below B0
  have he0 := he.below B0
  have HRD : Hid (Calls Tryz.prog 74 #[.pointer (some ⟨sb, 0, none⟩), .int .i64 5] W0 fun e w' => e = .returned (.bool true) ∧ W0 = w') := Lib.hid (by rw [← hr]; exact h0.ready 5)
  have HT := Lib.hid (h0.data ht)
  have HB0 := Lib.hid B0
  clear h he h0 he0 B0 X0 _hd
  go_enter Tryz.func47, Tryz.ntmps47
  go_wp2_with fail
  refine HRD.out.mono ?_
  rintro e w1 ⟨rfl, rfl⟩
  go_wp2_with fail
  refine HT.out.mono ?_
  rintro e w2 hP
  have hr := hP.ret
  subst hr
  have HP := Lib.hid hP
  clear hP
  go_wp2_with fail
  refine bodyPost_end (results_none rfl _ _ _) rfl ?_
  exact StepPost.from HB0.out HP.out

set_option maxHeartbeats 1000000 in
set_option maxRecDepth 100000 in
theorem obey_v6 (h : SesIn w A pp pb sb ch vw [] s) (he : EnvAt E w pp c) (hd : ∀ k, E k → ¬ A k) (name shown : List UInt8) (size : Nat) (hr : readyS s 6 = true) :
    Calls Tryz.prog 47 #[.pointer (some ⟨sb, 0, none⟩), .agg #[.int .i64 6, .string (bs name), .int .i64 (size : Int), .string (bs shown)]] w (StepPost A pp pb sb ch vw w ({ s with greeted := true, tx := none }) ([[50, 53, 48, 32] ++ hostOf c ++ [13, 10]])) := by
  obtain ⟨W0, hW0⟩ : ∃ W0 : World, w.alloc (.cells #[.int .i64 6, .string (bs name), .int .i64 (size : Int), .string (bs shown)] 123) = W0 := ⟨_, rfl⟩
  have B0 : Below w.heap.size w W0 := by rw [← hW0]; exact (Below.refl _ _).alloc (Nat.le_refl _) _
  have X0 : W0.heap[w.heap.size]? = some (.cells #[.int .i64 6, .string (bs name), .int .i64 (size : Int), .string (bs shown)] 123 (0, 0)) := by rw [← hW0]; exact heap_alloc_new w _
  have e0 : W0.cell? ⟨w.heap.size, 0, none⟩ = some (.int .i64 6) := by rw [Lib.cell_of_heap X0]; rfl
  have e1 : W0.cell? ⟨w.heap.size, 1, none⟩ = some (.string (bs name)) := by rw [Lib.cell_of_heap X0]; rfl
  have e2 : W0.cell? ⟨w.heap.size, 2, none⟩ = some (.int .i64 (size : Int)) := by rw [Lib.cell_of_heap X0]; rfl
  have e3 : W0.cell? ⟨w.heap.size, 3, none⟩ = some (.string (bs shown)) := by rw [Lib.cell_of_heap X0]; rfl
  have h0 := h.below B0
  have he0 := he.below B0
  have HRD : Hid (Calls Tryz.prog 74 #[.pointer (some ⟨sb, 0, none⟩), .int .i64 6] W0 fun e w' => e = .returned (.bool true) ∧ W0 = w') := Lib.hid (by rw [← hr]; exact h0.ready 6)
  have HT := Lib.hid (h0.greet he0 hd)
  have HB0 := Lib.hid B0
  clear h he h0 he0 B0 X0 hd
  go_enter Tryz.func47, Tryz.ntmps47
  go_wp2_with fail
  refine HRD.out.mono ?_
  rintro e w1 ⟨rfl, rfl⟩
  go_wp2_with fail
  refine HT.out.mono ?_
  rintro e w2 hP
  have hr := hP.ret
  subst hr
  have HP := Lib.hid hP
  clear hP
  go_wp2_with fail
  refine bodyPost_end (results_none rfl _ _ _) rfl ?_
  exact StepPost.from HB0.out HP.out

set_option maxHeartbeats 1000000 in
set_option maxRecDepth 100000 in
theorem obey_v7 (h : SesIn w A pp pb sb ch vw [] s) (he : EnvAt E w pp c) (hd : ∀ k, E k → ¬ A k) (name shown : List UInt8) (size : Nat) (hr : readyS s 7 = true) :
    Calls Tryz.prog 47 #[.pointer (some ⟨sb, 0, none⟩), .agg #[.int .i64 7, .string (bs name), .int .i64 (size : Int), .string (bs shown)]] w (StepPost A pp pb sb ch vw w ({ s with greeted := true, tx := none }) ([[50, 53, 48, 45] ++ hostOf c ++ [13, 10], [50, 53, 48, 45, 83, 73, 90, 69, 32] ++ Lib.itoa c.size ++ [13, 10], [50, 53, 48, 32, 65, 85, 84, 72, 32, 80, 76, 65, 73, 78, 13, 10]])) := by
  obtain ⟨W0, hW0⟩ : ∃ W0 : World, w.alloc (.cells #[.int .i64 7, .string (bs name), .int .i64 (size : Int), .string (bs shown)] 123) = W0 := ⟨_, rfl⟩
  have B0 : Below w.heap.size w W0 := by rw [← hW0]; exact (Below.refl _ _).alloc (Nat.le_refl _) _
  have X0 : W0.heap[w.heap.size]? = some (.cells #[.int .i64 7, .string (bs name), .int .i64 (size : Int), .string (bs shown)] 123 (0, 0)) := by rw [← hW0]; exact heap_alloc_new w _
  have e0 : W0.cell? ⟨w.heap.size, 0, none⟩ = some (.int .i64 7) := by rw [Lib.cell_of_heap X0]; rfl
  have e1 : W0.cell? ⟨w.heap.size, 1, none⟩ = some (.string (bs name)) := by rw [Lib.cell_of_heap X0]; rfl
  have e2 : W0.cell? ⟨w.heap.size, 2, none⟩ = some (.int .i64 (size : Int)) := by rw [Lib.cell_of_heap X0]; rfl
  have e3 : W0.cell? ⟨w.heap.size, 3, none⟩ = some (.string (bs shown)) := by rw [Lib.cell_of_heap X0]; rfl
  have h0 := h.below B0
  have he0 := he.below B0
  have HRD : Hid (Calls Tryz.prog 74 #[.pointer (some ⟨sb, 0, none⟩), .int .i64 7] W0 fun e w' => e = .returned (.bool true) ∧ W0 = w') := Lib.hid (by rw [← hr]; exact h0.ready 7)
  have HT := Lib.hid (h0.more he0 hd)
  have HB0 := Lib.hid B0
  clear h he h0 he0 B0 X0 hd
  go_enter Tryz.func47, Tryz.ntmps47
  go_wp2_with fail
  refine HRD.out.mono ?_
  rintro e w1 ⟨rfl, rfl⟩
  go_wp2_with fail
  refine HT.out.mono ?_
  rintro e w2 hP
  have hr := hP.ret
  subst hr
  have HP := Lib.hid hP
  clear hP
  go_wp2_with fail
  refine bodyPost_end (results_none rfl _ _ _) rfl ?_
  exact StepPost.from HB0.out HP.out

set_option maxHeartbeats 1000000 in
set_option maxRecDepth 100000 in
theorem obey_v8 (h : SesIn w A pp pb sb ch vw [] s) (he : EnvAt E w pp c) (_hd : ∀ k, E k → ¬ A k) (name shown : List UInt8) (size : Nat) (hr : readyS s 8 = true) :
    Calls Tryz.prog 47 #[.pointer (some ⟨sb, 0, none⟩), .agg #[.int .i64 8, .string (bs name), .int .i64 (size : Int), .string (bs shown)]] w (StepPost A pp pb sb ch vw w ((knowS c s shown).1) ((knowS c s shown).2)) := by
  obtain ⟨W0, hW0⟩ : ∃ W0 : World, w.alloc (.cells #[.int .i64 8, .string (bs name), .int .i64 (size : Int), .string (bs shown)] 123) = W0 := ⟨_, rfl⟩
  have B0 : Below w.heap.size w W0 := by rw [← hW0]; exact (Below.refl _ _).alloc (Nat.le_refl _) _
  have X0 : W0.heap[w.heap.size]? = some (.cells #[.int .i64 8, .string (bs name), .int .i64 (size : Int), .string (bs shown)] 123 (0, 0)) := by rw [← hW0]; exact heap_alloc_new w _
  have e0 : W0.cell? ⟨w.heap.size, 0, none⟩ = some (.int .i64 8) := by rw [Lib.cell_of_heap X0]; rfl
  have e1 : W0.cell? ⟨w.heap.size, 1, none⟩ = some (.string (bs name)) := by rw [Lib.cell_of_heap X0]; rfl
  have e2 : W0.cell? ⟨w.heap.size, 2, none⟩ = some (.int .i64 (size : Int)) := by rw [Lib.cell_of_heap X0]; rfl
  have e3 : W0.cell? ⟨w.heap.size, 3, none⟩ = some (.string (bs shown)) := by rw [Lib.cell_of_heap X0]; rfl
  have h0 := h.below B0
  have he0 := he.below B0
  have HRD : Hid (Calls Tryz.prog 74 #[.pointer (some ⟨sb, 0, none⟩), .int .i64 8] W0 fun e w' => e = .returned (.bool true) ∧ W0 = w') := Lib.hid (by rw [← hr]; exact h0.ready 8)
  have HT := Lib.hid (h0.know he0 shown)
  have HB0 := Lib.hid B0
  clear h he h0 he0 B0 X0 _hd
  go_enter Tryz.func47, Tryz.ntmps47
  go_wp2_with fail
  refine HRD.out.mono ?_
  rintro e w1 ⟨rfl, rfl⟩
  go_wp2_with fail
  refine HT.out.mono ?_
  rintro e w2 hP
  have hr := hP.ret
  subst hr
  have HP := Lib.hid hP
  clear hP
  go_wp2_with fail
  refine bodyPost_end (results_none rfl _ _ _) rfl ?_
  exact StepPost.from HB0.out HP.out

set_option maxHeartbeats 1000000 in
set_option maxRecDepth 100000 in
theorem obey_v9 (h : SesIn w A pp pb sb ch vw [] s) (he : EnvAt E w pp c) (_hd : ∀ k, E k → ¬ A k) (name shown : List UInt8) (size : Nat) (hr : readyS s 9 = true) :
    Calls Tryz.prog 47 #[.pointer (some ⟨sb, 0, none⟩), .agg #[.int .i64 9, .string (bs name), .int .i64 (size : Int), .string (bs shown)]] w (StepPost A pp pb sb ch vw w ((mailS1 c s name (size : Int)).1) ((mailS1 c s name (size : Int)).2)) := by
  obtain ⟨W0, hW0⟩ : ∃ W0 : World, w.alloc (.cells #[.int .i64 9, .string (bs name), .int .i64 (size : Int), .string (bs shown)] 123) = W0 := ⟨_, rfl⟩
  have B0 : Below w.heap.size w W0 := by rw [← hW0]; exact (Below.refl _ _).alloc (Nat.le_refl _) _
  have X0 : W0.heap[w.heap.size]? = some (.cells #[.int .i64 9, .string (bs name), .int .i64 (size : Int), .string (bs shown)] 123 (0, 0)) := by rw [← hW0]; exact heap_alloc_new w _
  have e0 : W0.cell? ⟨w.heap.size, 0, none⟩ = some (.int .i64 9) := by rw [Lib.cell_of_heap X0]; rfl
  have e1 : W0.cell? ⟨w.heap.size, 1, none⟩ = some (.string (bs name)) := by rw [Lib.cell_of_heap X0]; rfl
  have e2 : W0.cell? ⟨w.heap.size, 2, none⟩ = some (.int .i64 (size : Int)) := by rw [Lib.cell_of_heap X0]; rfl
  have e3 : W0.cell? ⟨w.heap.size, 3, none⟩ = some (.string (bs shown)) := by rw [Lib.cell_of_heap X0]; rfl
  have h0 := h.below B0
  have he0 := he.below B0
  have HRD : Hid (Calls Tryz.prog 74 #[.pointer (some ⟨sb, 0, none⟩), .int .i64 9] W0 fun e w' => e = .returned (.bool true) ∧ W0 = w') := Lib.hid (by rw [← hr]; exact h0.ready 9)
  have HT := Lib.hid (h0.mail he0 name (size : Int))
  have HB0 := Lib.hid B0
  clear h he h0 he0 B0 X0 _hd
  go_enter Tryz.func47, Tryz.ntmps47
  go_wp2_with fail
  refine HRD.out.mono ?_
  rintro e w1 ⟨rfl, rfl⟩
  go_wp2_with fail
  refine HT.out.mono ?_
  rintro e w2 hP
  have hr := hP.ret
  subst hr
  have HP := Lib.hid hP
  clear hP
  go_wp2_with fail
  refine bodyPost_end (results_none rfl _ _ _) rfl ?_
  exact StepPost.from HB0.out HP.out

set_option maxHeartbeats 1000000 in
set_option maxRecDepth 100000 in
theorem obey_v10 (h : SesIn w A pp pb sb ch vw [] s) (he : EnvAt E w pp c) (_hd : ∀ k, E k → ¬ A k) (name shown : List UInt8) (size : Nat) {t : PTx} (ht : s.tx = some t) (hnb : t.body = none) (hn : name.length ≤ 1048576) (hl : t.tos.length ≤ 10) (hr : readyS s 10 = true) :
    Calls Tryz.prog 47 #[.pointer (some ⟨sb, 0, none⟩), .agg #[.int .i64 10, .string (bs name), .int .i64 (size : Int), .string (bs shown)]] w (StepPost A pp pb sb ch vw w ({ s with tx := some { t with tos := rcptTos t.tos c.most (s.nets || s.known || domOk c name) name } }) ([rcptSays t.tos c.most (s.nets || s.known || domOk c name) name])) := by
  obtain ⟨W0, hW0⟩ : ∃ W0 : World, w.alloc (.cells #[.int .i64 10, .string (bs name), .int .i64 (size : Int), .string (bs shown)] 123) = W0 := ⟨_, rfl⟩
  have B0 : Below w.heap.size w W0 := by rw [← hW0]; exact (Below.refl _ _).alloc (Nat.le_refl _) _
  have X0 : W0.heap[w.heap.size]? = some (.cells #[.int .i64 10, .string (bs name), .int .i64 (size : Int), .string (bs shown)] 123 (0, 0)) := by rw [← hW0]; exact heap_alloc_new w _
  have e0 : W0.cell? ⟨w.heap.size, 0, none⟩ = some (.int .i64 10) := by rw [Lib.cell_of_heap X0]; rfl
  have e1 : W0.cell? ⟨w.heap.size, 1, none⟩ = some (.string (bs name)) := by rw [Lib.cell_of_heap X0]; rfl
  have e2 : W0.cell? ⟨w.heap.size, 2, none⟩ = some (.int .i64 (size : Int)) := by rw [Lib.cell_of_heap X0]; rfl
  have e3 : W0.cell? ⟨w.heap.size, 3, none⟩ = some (.string (bs shown)) := by rw [Lib.cell_of_heap X0]; rfl
  have h0 := h.below B0
  have he0 := he.below B0
  have HRD : Hid (Calls Tryz.prog 74 #[.pointer (some ⟨sb, 0, none⟩), .int .i64 10] W0 fun e w' => e = .returned (.bool true) ∧ W0 = w') := Lib.hid (by rw [← hr]; exact h0.ready 10)
  have HT := Lib.hid (h0.rcpt he0 ht hnb name hn hl)
  have HB0 := Lib.hid B0
  clear h he h0 he0 B0 X0 _hd
  go_enter Tryz.func47, Tryz.ntmps47
  go_wp2_with fail
  refine HRD.out.mono ?_
  rintro e w1 ⟨rfl, rfl⟩
  go_wp2_with fail
  refine HT.out.mono ?_
  rintro e w2 hP
  have hr := hP.ret
  subst hr
  have HP := Lib.hid hP
  clear hP
  go_wp2_with fail
  refine bodyPost_end (results_none rfl _ _ _) rfl ?_
  exact StepPost.from HB0.out HP.out

end
end Go.Proofs.YtadcidbeealdpaaGreatDoor
