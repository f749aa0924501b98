import Derived.Test.YtadcidbeealdpaaGreatDoorS19
import Derived.Conc.LoneSelect
import Derived.Defers
import Derived.Test.YtadcidbeealdpaaGreatDoorS25
import Derived.Test.YtadcidbeealdpaaGreatDoorS26
import Derived.Test.YtadcidbeealdpaaGreatDoorS24
import Derived.Test.YtadcidbeealdpaaGreatDoorS03

/- A session takes what was told. -/
namespace Go.Proofs.YtadcidbeealdpaaGreatDoor
open Go.Conc Go.RowKit

/-- a function whose contract lies already is called in mid-walk -/
theorem called {P : Program} {Q : Goroutine → World → Prop} {f : FuncId} {args : Array Value} {w : World} {R : Ending → World → Prop} {c : Frame} {cs : List Frame} (h : Calls P f args w R) (hp : ∀ chain w', ¬ R (.panicked chain) w') (ho : ∀ w', ¬ R .outgrown w')
    (k : ∀ v w', R (.returned v) w' → LoneTo P Q (G (c.finish v) cs) w') : LoneTo P Q (G (Frame.enter P f args .normal) (c :: cs)) w := by
  obtain ⟨e, w', fr, hR, hc, _, hl⟩ := h (c :: cs)
  cases e with
  | returned v =>
    obtain ⟨g2, w2, hs, hq⟩ := k v w' hR
    exact ⟨g2, w2, Steps.trans hc (Steps.head (step_leave_returned hl) hs), hq⟩
  | panicked chain => exact absurd hR (hp _ _)
  | outgrown => exact absurd hR (ho _)

set_option maxRecDepth 100000 in
theorem takeTold_none (sb ch s r : Nat) (tm : Bool) (vb : Value) (w : World) (hc : w.cell? ⟨sb, 3, none⟩ = some (.chan (some ch))) (hch : w.heap[ch]? = some (.chan 3 #[] false s r tm)) :
    Calls Tryz.prog 24 #[.pointer (some ⟨sb, 0, none⟩), vb] w fun e w' => e = .returned (.tuple #[]) ∧ w = w' := by
  refine calls_of_loneTo fun cs => ?_
  have e : Frame.enter Tryz.prog 24 #[.pointer (some ⟨sb, 0, none⟩), vb] .normal = (base 24).at ⟨#[.pointer (some ⟨sb, 0, none⟩), vb, undef, undef, undef, undef, undef, undef, undef, undef, undef, undef, undef, undef, undef, undef], []⟩ [.code (Tryz.f24.body.getD .skip)] := by
    simp [Frame.enter, Frame.at, Tryz.func24, base, Tryz.f24]
  rw [e]
  refine LoneTo.goes (n := 30) ?_
  simp only [Tryz.f24, Option.getD_some]
  s_c stepG_block
  s_c stepG_loop
  s_c stepG_block
  s_c stepG_seq
  s_reg
  s_op
  s_op
  s_op
  s_op
  s_c stepG_region_end
  s_c stepG_seq
  s_reg
  s_stop
  refine LoneTo.step (step_lone_select_default (c := ch) (z := .string ⟨#[]⟩) (stepG_comm (cases := #[rcase ch (.string ⟨#[]⟩)]) (blocking := false) (shape := .select) (w' := w) rfl rfl (by decide) (by simp [go_sem, rcase, Act.eval, execOp])) hch) ?_
  rw [Frame.finish_at]
  walk_nrm
  refine LoneTo.goes (n := 20) ?_
  s_op
  s_op
  s_c stepG_region_end
  s_c stepG_block
  s_cond false
  s_c stepG_ret'
  s_stop
  refine LoneTo.done ⟨.returned (.tuple #[]), _, rfl, ⟨rfl, rfl⟩, rfl, rfl, rfl, rfl, _, Tryz.func24, by simp [results, Tryz.f24, Frame.at]⟩
/-- the loop's body -/
def loopOf : Option Code → Code
  | some (.block _ (.loop c)) => c
  | _ => .skip
noncomputable def toldBody : Code := loopOf Tryz.f24.body

set_option maxHeartbeats 1000000 in
set_option maxRecDepth 100000 in
theorem told_loop (Bd : List UInt8 → World → Prop) (sb ch : Nat) (tm : Bool) (vb : Value) (cs : List Frame) (R : World → Prop)
    (hW : ∀ acc l w, Bd acc w → l.length ≤ 1048576 → acc.length + l.length ≤ 140737488355328 → Calls Tryz.prog 41 #[vb, .string (bs l)] w fun e w' => (∃ v, e = .returned v) ∧ Bd (acc ++ l) w' ∧ ∀ o, w.heap[ch]? = some o → w'.heap[ch]? = some o)
    (hcell : ∀ acc w, Bd acc w → w.cell? ⟨sb, 3, none⟩ = some (.chan (some ch)))
    (hset : ∀ acc w buf buf' s r, Bd acc w → w.heap[ch]? = some (.chan 3 buf false s r tm) → Bd acc (w.setChan ch 3 buf' false s (r + 1) tm)) :
    ∀ (ls : List (List UInt8)) (acc : List UInt8) (w : World) (s r : Nat) (u2 u3 u4 u5 u6 u7 u8 u9 u10 u11 u12 u13 u14 u15 : Value), Bd acc w → w.heap[ch]? = some (.chan 3 (ls.map fun l => Value.string (bs l)).toArray false s r tm) → (∀ l ∈ ls, l.length ≤ 1048576) → acc.length + ls.flatten.length ≤ 140737488355328 →
      (∀ w' s' r', Bd (acc ++ ls.flatten) w' → w'.heap[ch]? = some (.chan 3 #[] false s' r' tm) → R w') →
      LoneTo Tryz.prog (fun g' w' => ∃ e fr, g' = G fr cs ∧ (e = .returned (.tuple #[]) ∧ R w') ∧ fr.fn = 24 ∧ fr.leaving Tryz.prog w' e)
        (G ((base 24).at ⟨#[.pointer (some ⟨sb, 0, none⟩), vb, u2, u3, u4, u5, u6, u7, u8, u9, u10, u11, u12, u13, u14, u15], []⟩ [.code toldBody, .inLoop toldBody, .inBlock 0]) cs) w := by
  intro ls
  induction ls with
  | nil =>
    intro acc w s r u2 u3 u4 u5 u6 u7 u8 u9 u10 u11 u12 u13 u14 u15 hB hch _ _ hR
    have hc := hcell acc w hB
    have hend := hR w s r (by simpa using hB) (by simpa using hch)
    simp only [List.map_nil] at hch
    clear hW hcell hset hR
    refine LoneTo.goes (n := 30) ?_
    simp only [toldBody, loopOf, Tryz.f24]
    s_c stepG_block
    s_c stepG_seq
    s_reg
    s_op
    s_op
    s_op
    s_op
    s_c stepG_region_end
    s_c stepG_seq
    s_reg
    s_stop
    refine LoneTo.step (step_lone_select_default (c := ch) (z := .string ⟨#[]⟩) (stepG_comm (cases := #[rcase ch (.string ⟨#[]⟩)]) (blocking := false) (shape := .select) (w' := w) rfl rfl (by decide) (by simp [go_sem, rcase, Act.eval, execOp])) hch) ?_
    rw [Frame.finish_at]
    walk_nrm
    refine LoneTo.goes (n := 20) ?_
    s_op
    s_op
    s_c stepG_region_end
    s_c stepG_block
    s_cond false
    s_c stepG_ret'
    s_stop
    exact LoneTo.done ⟨.returned (.tuple #[]), _, rfl, ⟨rfl, hend⟩, rfl, rfl, rfl, rfl, _, Tryz.func24, by simp [results, Tryz.f24, Frame.at]⟩
  | cons l ls ih =>
    intro acc w s r u2 u3 u4 u5 u6 u7 u8 u9 u10 u11 u12 u13 u14 u15 hB hch hl hal hR
    have hc := hcell acc w hB
    have hll := hl l (List.mem_cons_self ..)
    have hal1 : acc.length + l.length ≤ 140737488355328 := by rw [List.flatten_cons, List.length_append] at hal; omega
    have hal2 : (acc ++ l).length + ls.flatten.length ≤ 140737488355328 := by rw [List.flatten_cons, List.length_append] at hal; rw [List.length_append]; omega
    have hB1 := hset acc w _ (ls.map fun l => Value.string (bs l)).toArray s r hB hch
    have hex : ((((l :: ls).map fun l => Value.string (bs l)).toArray).extract 1 (((l :: ls).map fun l => Value.string (bs l)).toArray).size) = (ls.map fun l => Value.string (bs l)).toArray := by simp [List.take_of_length_le]
    have hhd : ((((l :: ls).map fun l => Value.string (bs l)).toArray).getD 0 undef) = .string (bs l) := by simp
    have hchl : ch < w.heap.size := (Array.getElem?_eq_some_iff.1 hch).1
    refine LoneTo.goes (n := 30) ?_
    simp only [toldBody, loopOf, Tryz.f24]
    s_c stepG_block
    s_c stepG_seq
    s_reg
    s_op
    s_op
    s_op
    s_op
    s_c stepG_region_end
    s_c stepG_seq
    s_reg
    s_stop
    refine LoneTo.step (step_lone_select_recv_buf (c := ch) (z := .string ⟨#[]⟩) (stepG_comm (cases := #[rcase ch (.string ⟨#[]⟩)]) (blocking := false) (shape := .select) (w' := w) rfl rfl (by decide) (by simp [go_sem, rcase, Act.eval, execOp])) hch (by simp)) ?_
    rw [hex, hhd]
    rw [Frame.finish_at]
    walk_nrm
    have hch1 := heap_setChan w ch 3 (ls.map fun l => Value.string (bs l)).toArray false s (r + 1) tm hchl
    obtain ⟨w1, hw1⟩ : ∃ w1, w.setChan ch 3 (ls.map fun l => Value.string (bs l)).toArray false s (r + 1) tm = w1 := ⟨_, rfl⟩
    rw [hw1] at hB1 hch1 ⊢
    clear hw1 hc hch hB hex hhd hchl
    refine LoneTo.goes (n := 30) ?_
    s_op
    s_op
    s_c stepG_region_end
    s_c stepG_block
    s_cond true
    s_c stepG_seq
    s_reg
    s_op
    s_op
    s_c stepG_region_end
    s_reg
    s_op
    s_op
    s_stop
    refine LoneTo.step (step_solo_go rfl (stepG_enter (f := 41) (args := #[vb, .string (bs l)]) (w' := w1) rfl rfl (by decide) (by simp [go_sem, Act.eval, execOp]))) ?_
    refine called (hW acc l w1 hB1 hll hal1) (fun _ _ h => by obtain ⟨⟨_, h⟩, _⟩ := h; cases h) (fun _ h => by obtain ⟨⟨_, h⟩, _⟩ := h; cases h) fun v w2 h2 => ?_
    obtain ⟨_, hB2, hk2⟩ := h2
    have hch2 := hk2 _ hch1
    rw [Frame.finish_at]
    walk_nrm
    refine LoneTo.goes (n := 30) ?_
    s_c stepG_region_end
    s_c stepG_inBlock
    s_c stepG_inBlock
    s_c stepG_inLoop
    s_stop
    exact ih (acc ++ l) w2 s (r + 1) _ _ _ _ _ _ _ _ _ _ _ _ _ _ hB2 hch2 (fun x hx => hl x (List.mem_cons_of_mem _ hx)) hal2 (fun w' s' r' h1 h2 => hR w' s' r' (by rw [List.flatten_cons, ← List.append_assoc]; exact h1) h2)

set_option maxRecDepth 100000 in
/-- what waits is written down behind what was said, and nothing waits any more; 'Bd' says what else holds of the world -/
theorem takeTold_any (Bd : List UInt8 → World → Prop) (sb ch s r : Nat) (tm : Bool) (vb : Value) (ls : List (List UInt8)) (acc : List UInt8) (w : World)
    (hW : ∀ acc l w, Bd acc w → l.length ≤ 1048576 → acc.length + l.length ≤ 140737488355328 → Calls Tryz.prog 41 #[vb, .string (bs l)] w fun e w' => (∃ v, e = .returned v) ∧ Bd (acc ++ l) w' ∧ ∀ o, w.heap[ch]? = some o → w'.heap[ch]? = some o)
    (hcell : ∀ acc w, Bd acc w → w.cell? ⟨sb, 3, none⟩ = some (.chan (some ch)))
    (hset : ∀ acc w buf buf' s r, Bd acc w → w.heap[ch]? = some (.chan 3 buf false s r tm) → Bd acc (w.setChan ch 3 buf' false s (r + 1) tm))
    (hB : Bd acc w) (hch : w.heap[ch]? = some (.chan 3 (ls.map fun l => Value.string (bs l)).toArray false s r tm)) (hl : ∀ l ∈ ls, l.length ≤ 1048576) (hal : acc.length + ls.flatten.length ≤ 140737488355328) :
    Calls Tryz.prog 24 #[.pointer (some ⟨sb, 0, none⟩), vb] w fun e w' => e = .returned (.tuple #[]) ∧ ∃ s' r', Bd (acc ++ ls.flatten) w' ∧ w'.heap[ch]? = some (.chan 3 #[] false s' r' tm) := by
  refine calls_of_loneTo fun cs => ?_
  have e : Frame.enter Tryz.prog 24 #[.pointer (some ⟨sb, 0, none⟩), vb] .normal = (base 24).at ⟨#[.pointer (some ⟨sb, 0, none⟩), vb, undef, undef, undef, undef, undef, undef, undef, undef, undef, undef, undef, undef, undef, undef], []⟩ [.code (.block 0 (.loop toldBody))] := by
    simp [Frame.enter, Frame.at, Tryz.func24, base, Tryz.f24, toldBody, loopOf]
  rw [e]
  refine LoneTo.goes (n := 2) ?_
  s_c stepG_block
  s_c stepG_loop
  s_stop
  exact told_loop Bd sb ch tm vb cs _ hW hcell hset ls acc w s r _ _ _ _ _ _ _ _ _ _ _ _ _ _ hB hch hl hal (fun w' s' r' h1 h2 => ⟨s', r', h1, h2⟩)
end Go.Proofs.YtadcidbeealdpaaGreatDoor

/- A session takes what was told, on its way out. -/
namespace Go.Proofs.YtadcidbeealdpaaGreatDoor
open Go.Conc Go.RowKit

def baseD (f : FuncId) : Frame := { base f with kind := .deferred }

set_option maxHeartbeats 1000000 in
set_option maxRecDepth 100000 in
theorem told_loopD (Bd : List UInt8 → World → Prop) (sb ch : Nat) (tm : Bool) (vb : Value) (cs : List Frame) (R : World → Prop)
    (hW : ∀ acc l w, Bd acc w → l.length ≤ 1048576 → acc.length + l.length ≤ 140737488355328 → Calls Tryz.prog 41 #[vb, .string (bs l)] w fun e w' => (∃ v, e = .returned v) ∧ Bd (acc ++ l) w' ∧ ∀ o, w.heap[ch]? = some o → w'.heap[ch]? = some o)
    (hcell : ∀ acc w, Bd acc w → w.cell? ⟨sb, 3, none⟩ = some (.chan (some ch)))
    (hset : ∀ acc w buf buf' s r, Bd acc w → w.heap[ch]? = some (.chan 3 buf false s r tm) → Bd acc (w.setChan ch 3 buf' false s (r + 1) tm)) :
    ∀ (ls : List (List UInt8)) (acc : List UInt8) (w : World) (s r : Nat) (u2 u3 u4 u5 u6 u7 u8 u9 u10 u11 u12 u13 u14 u15 : Value), Bd acc w → w.heap[ch]? = some (.chan 3 (ls.map fun l => Value.string (bs l)).toArray false s r tm) → (∀ l ∈ ls, l.length ≤ 1048576) → acc.length + ls.flatten.length ≤ 140737488355328 →
      (∀ w' s' r', Bd (acc ++ ls.flatten) w' → w'.heap[ch]? = some (.chan 3 #[] false s' r' tm) → R w') →
      LoneTo Tryz.prog (fun g' w' => ∃ e fr, g' = G fr cs ∧ (e = .returned (.tuple #[]) ∧ R w') ∧ fr.kind = .deferred ∧ fr.going Tryz.prog w' e)
        (G ((baseD 24).at ⟨#[.pointer (some ⟨sb, 0, none⟩), vb, u2, u3, u4, u5, u6, u7, u8, u9, u10, u11, u12, u13, u14, u15], []⟩ [.code toldBody, .inLoop toldBody, .inBlock 0]) cs) w := by
  intro ls
  induction ls with
  | nil =>
    intro acc w s r u2 u3 u4 u5 u6 u7 u8 u9 u10 u11 u12 u13 u14 u15 hB hch _ _ hR
    have hc := hcell acc w hB
    have hend := hR w s r (by simpa using hB) (by simpa using hch)
    simp only [List.map_nil] at hch
    clear hW hcell hset hR
    refine LoneTo.goes (n := 30) ?_
    simp only [toldBody, loopOf, Tryz.f24]
    s_c stepG_block
    s_c stepG_seq
    s_reg
    s_op
    s_op
    s_op
    s_op
    s_c stepG_region_end
    s_c stepG_seq
    s_reg
    s_stop
    refine LoneTo.step (step_lone_select_default (c := ch) (z := .string ⟨#[]⟩) (stepG_comm (cases := #[rcase ch (.string ⟨#[]⟩)]) (blocking := false) (shape := .select) (w' := w) rfl rfl (by decide) (by simp [go_sem, rcase, Act.eval, execOp])) hch) ?_
    rw [Frame.finish_at]
    walk_nrm
    refine LoneTo.goes (n := 20) ?_
    s_op
    s_op
    s_c stepG_region_end
    s_c stepG_block
    s_cond false
    s_c stepG_ret'
    s_stop
    exact LoneTo.done ⟨.returned (.tuple #[]), _, rfl, ⟨rfl, hend⟩, rfl, rfl, rfl, _, Tryz.func24, by simp [results, Tryz.f24, Frame.at]⟩
  | cons l ls ih =>
    intro acc w s r u2 u3 u4 u5 u6 u7 u8 u9 u10 u11 u12 u13 u14 u15 hB hch hl hal hR
    have hc := hcell acc w hB
    have hll := hl l (List.mem_cons_self ..)
    have hal1 : acc.length + l.length ≤ 140737488355328 := by rw [List.flatten_cons, List.length_append] at hal; omega
    have hal2 : (acc ++ l).length + ls.flatten.length ≤ 140737488355328 := by rw [List.flatten_cons, List.length_append] at hal; rw [List.length_append]; omega
    have hB1 := hset acc w _ (ls.map fun l => Value.string (bs l)).toArray s r hB hch
    have hex : ((((l :: ls).map fun l => Value.string (bs l)).toArray).extract 1 (((l :: ls).map fun l => Value.string (bs l)).toArray).size) = (ls.map fun l => Value.string (bs l)).toArray := by simp [List.take_of_length_le]
    have hhd : ((((l :: ls).map fun l => Value.string (bs l)).toArray).getD 0 undef) = .string (bs l) := by simp
    have hchl : ch < w.heap.size := (Array.getElem?_eq_some_iff.1 hch).1
    refine LoneTo.goes (n := 30) ?_
    simp only [toldBody, loopOf, Tryz.f24]
    s_c stepG_block
    s_c stepG_seq
    s_reg
    s_op
    s_op
    s_op
    s_op
    s_c stepG_region_end
    s_c stepG_seq
    s_reg
    s_stop
    refine LoneTo.step (step_lone_select_recv_buf (c := ch) (z := .string ⟨#[]⟩) (stepG_comm (cases := #[rcase ch (.string ⟨#[]⟩)]) (blocking := false) (shape := .select) (w' := w) rfl rfl (by decide) (by simp [go_sem, rcase, Act.eval, execOp])) hch (by simp)) ?_
    rw [hex, hhd]
    rw [Frame.finish_at]
    walk_nrm
    have hch1 := heap_setChan w ch 3 (ls.map fun l => Value.string (bs l)).toArray false s (r + 1) tm hchl
    obtain ⟨w1, hw1⟩ : ∃ w1, w.setChan ch 3 (ls.map fun l => Value.string (bs l)).toArray false s (r + 1) tm = w1 := ⟨_, rfl⟩
    rw [hw1] at hB1 hch1 ⊢
    clear hw1 hc hch hB hex hhd hchl
    refine LoneTo.goes (n := 30) ?_
    s_op
    s_op
    s_c stepG_region_end
    s_c stepG_block
    s_cond true
    s_c stepG_seq
    s_reg
    s_op
    s_op
    s_c stepG_region_end
    s_reg
    s_op
    s_op
    s_stop
    refine LoneTo.step (step_solo_go rfl (stepG_enter (f := 41) (args := #[vb, .string (bs l)]) (w' := w1) rfl rfl (by decide) (by simp [go_sem, Act.eval, execOp]))) ?_
    refine called (hW acc l w1 hB1 hll hal1) (fun _ _ h => by obtain ⟨⟨_, h⟩, _⟩ := h; cases h) (fun _ h => by obtain ⟨⟨_, h⟩, _⟩ := h; cases h) fun v w2 h2 => ?_
    obtain ⟨_, hB2, hk2⟩ := h2
    have hch2 := hk2 _ hch1
    rw [Frame.finish_at]
    walk_nrm
    refine LoneTo.goes (n := 30) ?_
    s_c stepG_region_end
    s_c stepG_inBlock
    s_c stepG_inBlock
    s_c stepG_inLoop
    s_stop
    exact ih (acc ++ l) w2 s (r + 1) _ _ _ _ _ _ _ _ _ _ _ _ _ _ hB2 hch2 (fun x hx => hl x (List.mem_cons_of_mem _ hx)) hal2 (fun w' s' r' h1 h2 => hR w' s' r' (by rw [List.flatten_cons, ← List.append_assoc]; exact h1) h2)

set_option maxRecDepth 100000 in
theorem takeTold_runD (Bd : List UInt8 → World → Prop) (sb ch s r : Nat) (tm : Bool) (vb : Value) (ls : List (List UInt8)) (acc : List UInt8) (w : World) (cs : List Frame)
    (hW : ∀ acc l w, Bd acc w → l.length ≤ 1048576 → acc.length + l.length ≤ 140737488355328 → Calls Tryz.prog 41 #[vb, .string (bs l)] w fun e w' => (∃ v, e = .returned v) ∧ Bd (acc ++ l) w' ∧ ∀ o, w.heap[ch]? = some o → w'.heap[ch]? = some o)
    (hcell : ∀ acc w, Bd acc w → w.cell? ⟨sb, 3, none⟩ = some (.chan (some ch)))
    (hset : ∀ acc w buf buf' s r, Bd acc w → w.heap[ch]? = some (.chan 3 buf false s r tm) → Bd acc (w.setChan ch 3 buf' false s (r + 1) tm))
    (hB : Bd acc w) (hch : w.heap[ch]? = some (.chan 3 (ls.map fun l => Value.string (bs l)).toArray false s r tm)) (hl : ∀ l ∈ ls, l.length ≤ 1048576) (hal : acc.length + ls.flatten.length ≤ 140737488355328) :
    LoneTo Tryz.prog (fun g' w' => ∃ e fr, g' = G fr cs ∧ (e = .returned (.tuple #[]) ∧ ∃ s' r', Bd (acc ++ ls.flatten) w' ∧ w'.heap[ch]? = some (.chan 3 #[] false s' r' tm)) ∧ fr.kind = .deferred ∧ fr.going Tryz.prog w' e)
      (G ((baseD 24).at ⟨#[.pointer (some ⟨sb, 0, none⟩), vb, undef, undef, undef, undef, undef, undef, undef, undef, undef, undef, undef, undef, undef, undef], []⟩ [.code (.block 0 (.loop toldBody))]) cs) w := by
  refine LoneTo.goes (n := 2) ?_
  s_c stepG_block
  s_c stepG_loop
  s_stop
  exact told_loopD Bd sb ch tm vb cs _ hW hcell hset ls acc w s r _ _ _ _ _ _ _ _ _ _ _ _ _ _ hB hch hl hal (fun w' s' r' h1 h2 => ⟨s', r', h1, h2⟩)

set_option maxRecDepth 100000 in
/-- the same, deferred -/
theorem takeTold_defer (Bd : List UInt8 → World → Prop) (sb ch s r : Nat) (tm : Bool) (vb : Value) (ls : List (List UInt8)) (acc : List UInt8) (u : FrameMode) (w : World)
    (hW : ∀ acc l w, Bd acc w → l.length ≤ 1048576 → acc.length + l.length ≤ 140737488355328 → Calls Tryz.prog 41 #[vb, .string (bs l)] w fun e w' => (∃ v, e = .returned v) ∧ Bd (acc ++ l) w' ∧ ∀ o, w.heap[ch]? = some o → w'.heap[ch]? = some o)
    (hcell : ∀ acc w, Bd acc w → w.cell? ⟨sb, 3, none⟩ = some (.chan (some ch)))
    (hset : ∀ acc w buf buf' s r, Bd acc w → w.heap[ch]? = some (.chan 3 buf false s r tm) → Bd acc (w.setChan ch 3 buf' false s (r + 1) tm))
    (hB : Bd acc w) (hch : w.heap[ch]? = some (.chan 3 (ls.map fun l => Value.string (bs l)).toArray false s r tm)) (hl : ∀ l ∈ ls, l.length ≤ 1048576) (hal : acc.length + ls.flatten.length ≤ 140737488355328) :
    CallsD Tryz.prog 24 #[.pointer (some ⟨sb, 0, none⟩), vb] u w fun e u' w' => u' = u ∧ e = .returned (.tuple #[]) ∧ ∃ s' r', Bd (acc ++ ls.flatten) w' ∧ w'.heap[ch]? = some (.chan 3 #[] false s' r' tm) := by
  intro c cs hu
  subst hu
  have e : Frame.enter Tryz.prog 24 #[.pointer (some ⟨sb, 0, none⟩), vb] .deferred = (baseD 24).at ⟨#[.pointer (some ⟨sb, 0, none⟩), vb, undef, undef, undef, undef, undef, undef, undef, undef, undef, undef, undef, undef, undef, undef], []⟩ [.code (.block 0 (.loop toldBody))] := by
    simp [Frame.enter, Frame.at, Tryz.func24, baseD, base, Tryz.f24, toldBody, loopOf]
  obtain ⟨_, w', hs, e', fr, rfl, ⟨rfl, h⟩, hk, hg⟩ := takeTold_runD Bd sb ch s r tm vb ls acc w (c :: cs) hW hcell hset hB hch hl hal
  rw [e]
  exact ⟨.returned (.tuple #[]), c.mode, w', fr, ⟨rfl, rfl, h⟩, hs, hk, hg⟩
end Go.Proofs.YtadcidbeealdpaaGreatDoor

/- All that a session works on, at once. -/
namespace Go.Proofs.YtadcidbeealdpaaGreatDoor
open Go.RowKit

/-- Env: what stays. A: the session's blocks; the bag's; the waiting line's row; the Builder's block bl and its row -/
structure HearW (E : Nat → Prop) (pp pb mb sb ch bl : Nat) (c : Cfg) (w : World) (A : Nat → Prop) (q : Nat → Nat) (vr : Value) (S : PStore) (recs : List UInt8) (vw v : Value) (acc : List UInt8) (ls : List (List UInt8)) (s : PSes) : Prop where
  env : EnvAt E w pp c
  ses : SesIn w A pp pb sb ch vw ls s
  row : RowZ w vw s.wait
  bag : BagR w pb mb q vr S recs
  bld : BldAt 0 w bl v acc
  ea : ∀ k, E k → ¬ A k
  eb : ∀ k, E k → ¬ bagOwn w pb mb q vr S k
  ab : ∀ k, A k → ¬ bagOwn w pb mb q vr S k
  wd : ∀ g, vw.ownBlock = some g → ¬ E g ∧ ¬ A g ∧ ¬ bagOwn w pb mb q vr S g ∧ g ≠ bl ∧ v.ownBlock ≠ some g
  ld : ¬ E bl ∧ ¬ A bl ∧ ¬ bagOwn w pb mb q vr S bl
  vd : ∀ g, v.ownBlock = some g → ¬ E g ∧ ¬ A g ∧ ¬ bagOwn w pb mb q vr S g
section
variable {E : Nat → Prop} {pp pb mb sb ch bl : Nat} {c : Cfg} {w w' : World} {A A' : Nat → Prop} {q q' : Nat → Nat} {vr vr' : Value} {S S' : PStore} {recs recs' : List UInt8} {vw vw' v v' : Value} {acc acc' : List UInt8} {ls ls' : List (List UInt8)} {s s' : PSes}
theorem HearW.rowLt (h : HearW E pp pb mb sb ch bl c w A q vr S recs vw v acc ls s) {g : Nat} (hg : vw.ownBlock = some g) : g < w.heap.size := by
  obtain ⟨cur, h1⟩ := own_tag' h.row hg
  exact heap_some_lt h1
theorem HearW.blLt (h : HearW E pp pb mb sb ch bl c w A q vr S recs vw v acc ls s) : bl < w.heap.size := by
  obtain ⟨p, _, h1⟩ := h.bld.blk
  exact heap_some_lt h1
theorem HearW.vLt (h : HearW E pp pb mb sb ch bl c w A q vr S recs vw v acc ls s) {g : Nat} (hg : v.ownBlock = some g) : g < w.heap.size := by
  obtain ⟨cur, z, h1⟩ := rowF_tag h.bld.row hg
  exact heap_some_lt h1
/-- all that is worked on -/
def hOwn (w : World) (pb mb bl : Nat) (A : Nat → Prop) (q : Nat → Nat) (vr : Value) (S : PStore) (vw v : Value) (k : Nat) : Prop := A k ∨ bagOwn w pb mb q vr S k ∨ k = bl ∨ v.ownBlock = some k ∨ vw.ownBlock = some k
theorem bld_chg {B : Nat → Prop} (h : BldAt 0 w bl v acc) (hc : Chg B w w') (h1 : ¬ B bl) (h2 : ∀ g, v.ownBlock = some g → ¬ B g) : BldAt 0 w' bl v acc := by
  obtain ⟨p, hp, hb⟩ := h.blk
  exact ⟨⟨p, hp, hc.some_ hb h1⟩, rowF_chg h.row hc h2, h.far⟩
/-- the session and the bag take a step -/
theorem HearW.line (h : HearW E pp pb mb sb ch bl c w A q vr S recs vw v acc ls s) (hp : LinePost A pp pb mb sb ch vw q vr S w s' S' recs' ls' w') (hw : s'.wait = s.wait) : ∃ A' q' vr', HearW E pp pb mb sb ch bl c w' A' q' vr' S' recs' vw v acc ls' s' ∧ (∀ k, A' k → A k ∨ w.heap.size ≤ k) ∧ (∀ k, bagOwn w' pb mb q' vr' S' k → bagOwn w pb mb q vr S k ∨ w.heap.size ≤ k) ∧ Chg (fun k => A k ∨ bagOwn w pb mb q vr S k) w w' := by
  obtain ⟨A', q', vr', p1, p2, p3, p4, p5, p6, p7⟩ := hp
  have dE : ∀ k, E k → ¬ (A k ∨ bagOwn w pb mb q vr S k) := fun k e x => x.elim (h.ea k e) (h.eb k e)
  have old : ∀ {k : Nat}, k < w.heap.size → ¬ A k → ¬ bagOwn w pb mb q vr S k → ¬ A' k ∧ ¬ bagOwn w' pb mb q' vr' S' k := fun hk n1 n2 => ⟨fun e => (p4 _ e).elim n1 (fun e => by omega), fun e => (p5 _ e).elim n2 (fun e => by omega)⟩
  refine ⟨A', q', vr', ⟨h.env.chg p7 dE, p1, ?_, p2, ?_, ?_, ?_, p6, ?_, ?_, ?_⟩, p4, p5, p7⟩
  · rw [hw]
    exact own_chg h.row p7 (fun g hg e => e.elim (h.wd g hg).2.1 (h.wd g hg).2.2.1)
  · exact bld_chg h.bld p7 (fun e => e.elim h.ld.2.1 h.ld.2.2) (fun g hg e => e.elim (h.vd g hg).2.1 (h.vd g hg).2.2)
  · exact fun k e => (old (h.env.lt k e) (h.ea k e) (h.eb k e)).1
  · exact fun k e => (old (h.env.lt k e) (h.ea k e) (h.eb k e)).2
  · intro g hg
    have := old (h.rowLt hg) (h.wd g hg).2.1 (h.wd g hg).2.2.1
    exact ⟨(h.wd g hg).1, this.1, this.2, (h.wd g hg).2.2.2⟩
  · have := old h.blLt h.ld.2.1 h.ld.2.2
    exact ⟨h.ld.1, this.1, this.2⟩
  · intro g hg
    have := old (h.vLt hg) (h.vd g hg).2.1 (h.vd g hg).2.2
    exact ⟨(h.vd g hg).1, this.1, this.2⟩
/-- nothing that was there turns -/
theorem HearW.below (h : HearW E pp pb mb sb ch bl c w A q vr S recs vw v acc ls s) (hb : Below w.heap.size w w') : HearW E pp pb mb sb ch bl c w' A q vr S recs vw v acc ls s := by
  have hc : Chg (fun _ => False) w w' := Chg.below hb
  obtain ⟨b1, b2⟩ := h.bag.chg hc (fun _ _ e => e)
  exact ⟨h.env.below hb, h.ses.below hb, own_chg h.row hc (fun _ _ e => e), b1, bld_chg h.bld hc (fun e => e) (fun _ _ e => e), h.ea, fun k e x => h.eb k e (b2 k x), fun k e x => h.ab k e (b2 k x), fun g hg => ⟨(h.wd g hg).1, (h.wd g hg).2.1, fun x => (h.wd g hg).2.2.1 (b2 g x), (h.wd g hg).2.2.2⟩, ⟨h.ld.1, h.ld.2.1, fun x => h.ld.2.2 (b2 _ x)⟩, fun g hg => ⟨(h.vd g hg).1, (h.vd g hg).2.1, fun x => (h.vd g hg).2.2 (b2 g x)⟩⟩
/-- the cutter takes a step -/
theorem HearW.cut (h : HearW E pp pb mb sb ch bl c w A q vr S recs vw v acc ls s) {C : Array Value} {wt : List UInt8} {vx : Value} (hC : C = sesCells pp pb ch vw vx s) (hA : SesAt w sb ch (sesCells pp pb ch vw vx s) ls) (hx : TxIn w A vx s.tx) (hp : CtPost sb C vw wt w w') : ∃ vw', HearW E pp pb mb sb ch bl c w' A q vr S recs vw' v acc ls { s with wait := wt } ∧ Chg (fun k => k = sb ∨ vw.ownBlock = some k) w w' ∧ (∀ g, vw'.ownBlock = some g → vw.ownBlock = some g ∨ w.heap.size ≤ g) ∧ ∀ k, bagOwn w' pb mb q vr S k → bagOwn w pb mb q vr S k := by
  obtain ⟨vw', a1, a2, a3⟩ := hp
  subst hC
  have dE : ∀ k, E k → ¬ (k = sb ∨ vw.ownBlock = some k) := fun k e x => x.elim (fun e' => h.ea k e (by rw [e']; exact h.ses.asb)) (fun e' => (h.wd k e').1 e)
  have dB : ∀ k, bagOwn w pb mb q vr S k → ¬ (k = sb ∨ vw.ownBlock = some k) := fun k e x => x.elim (fun e' => h.ab k (by rw [e']; exact h.ses.asb) e) (fun e' => (h.wd k e').2.2.1 e)
  obtain ⟨b1, b2⟩ := h.bag.chg a2 dB
  have hnew : ∀ g, vw'.ownBlock = some g → vw.ownBlock = some g ∨ w.heap.size ≤ g := a3
  obtain ⟨sq, r, hch⟩ := hA.chan
  have hchn : ¬ (ch = sb ∨ vw.ownBlock = some ch) := fun x => x.elim (fun e => hA.ne e.symm) (fun e => (h.wd ch e).2.1 h.ses.ach)
  have hS' : SesAt w' sb ch (sesCells pp pb ch vw' vx { s with wait := wt }) ls := ⟨a1.blk, a1.size, rfl, sq, r, a2.some_ hch hchn⟩
  have hx' : TxIn w' A vx s.tx := hx.off a2 (fun k C t z ak e ht x => x.elim (fun e' => ses_off hA k C t z e ht (.inl e')) (fun e' => (h.wd k e').2.1 ak))
  refine ⟨vw', ⟨h.env.chg a2 dE, ⟨⟨vx, hS', hx'⟩, h.ses.asb, h.ses.ach, fun k hk => Nat.lt_of_lt_of_le (h.ses.lt k hk) a2.size⟩, a1.row, b1, bld_chg h.bld a2 (fun x => x.elim (fun e => h.ld.2.1 (by rw [e]; exact h.ses.asb)) (fun e => (h.wd bl e).2.2.2.1 rfl)) (fun g hg x => x.elim (fun e => (h.vd g hg).2.1 (by rw [e]; exact h.ses.asb)) (fun e => (h.wd g e).2.2.2.2 hg)), h.ea, fun k e x => h.eb k e (b2 k x), fun k e x => h.ab k e (b2 k x), fun g hg => ?_, ⟨h.ld.1, h.ld.2.1, fun x => h.ld.2.2 (b2 _ x)⟩, fun g hg => ⟨(h.vd g hg).1, (h.vd g hg).2.1, fun x => (h.vd g hg).2.2 (b2 g x)⟩⟩, a2, hnew, b2⟩
  rcases hnew g hg with e | e
  · exact ⟨(h.wd g e).1, (h.wd g e).2.1, fun x => (h.wd g e).2.2.1 (b2 g x), (h.wd g e).2.2.2⟩
  · exact ⟨fun x => by have := h.env.lt g x; omega, fun x => by have := h.ses.lt g x; omega, fun x => by have := bagOwn.lt h.bag (b2 g x); omega, fun x => by have := h.blLt; omega, fun x => by have := h.vLt x; omega⟩
/-- what was told is taken -/
theorem HearW.told (h : HearW E pp pb mb sb ch bl c w A q vr S recs vw v acc ls s) {sq r : Nat} (hc : Chg (fun k => k = ch ∨ k = bl ∨ v.ownBlock = some k) w w') (hv : ∀ g, v'.ownBlock = some g → v.ownBlock = some g ∨ w.heap.size ≤ g) (hb : BldAt 0 w' bl v' acc') (hch : w'.heap[ch]? = some (.chan 3 #[] false sq r false)) : HearW E pp pb mb sb ch bl c w' A q vr S recs vw v' acc' [] s ∧ ∀ k, bagOwn w' pb mb q vr S k → bagOwn w pb mb q vr S k := by
  obtain ⟨vx, hA, hx⟩ := h.ses.ex
  have dE : ∀ k, E k → ¬ (k = ch ∨ k = bl ∨ v.ownBlock = some k) := fun k e x => by
    rcases x with x | x | x
    · exact h.ea k e (by rw [x]; exact h.ses.ach)
    · exact h.ld.1 (by rw [← x]; exact e)
    · exact (h.vd k x).1 e
  have dB : ∀ k, bagOwn w pb mb q vr S k → ¬ (k = ch ∨ k = bl ∨ v.ownBlock = some k) := fun k e x => by
    rcases x with x | x | x
    · exact h.ab k (by rw [x]; exact h.ses.ach) e
    · exact h.ld.2.2 (by rw [← x]; exact e)
    · exact (h.vd k x).2.2 e
  obtain ⟨b1, b2⟩ := h.bag.chg hc dB
  have dA : ∀ k, A k → k ≠ ch → ¬ (k = ch ∨ k = bl ∨ v.ownBlock = some k) := fun k a n x => by
    rcases x with x | x | x
    · exact n x
    · exact h.ld.2.1 (by rw [← x]; exact a)
    · exact (h.vd k x).2.1 a
  have hS' : SesAt w' sb ch (sesCells pp pb ch vw vx s) [] := ⟨hc.some_ hA.blk (dA sb h.ses.asb hA.ne), hA.size, hA.told, sq, r, hch⟩
  have hx' : TxIn w' A vx s.tx := hx.off hc (fun k C t z ak e ht => dA k ak (fun e' => ses_off hA k C t z e ht (.inr e')))
  refine ⟨⟨h.env.chg hc dE, ⟨⟨vx, hS', hx'⟩, h.ses.asb, h.ses.ach, fun k hk => Nat.lt_of_lt_of_le (h.ses.lt k hk) hc.size⟩, own_chg h.row hc (fun g hg x => ?_), b1, hb, h.ea, fun k e x => h.eb k e (b2 k x), fun k e x => h.ab k e (b2 k x), fun g hg => ⟨(h.wd g hg).1, (h.wd g hg).2.1, fun x => (h.wd g hg).2.2.1 (b2 g x), (h.wd g hg).2.2.2.1, fun x => ?_⟩, ⟨h.ld.1, h.ld.2.1, fun x => h.ld.2.2 (b2 _ x)⟩, fun g hg => ?_⟩, b2⟩
  · rcases x with x | x | x
    · exact (h.wd g hg).2.1 (by rw [x]; exact h.ses.ach)
    · exact (h.wd g hg).2.2.2.1 x
    · exact (h.wd g hg).2.2.2.2 x
  · rcases hv g x with e | e
    · exact (h.wd g hg).2.2.2.2 e
    · have := h.rowLt hg; omega
  · rcases hv g hg with e | e
    · exact ⟨(h.vd g e).1, (h.vd g e).2.1, fun x => (h.vd g e).2.2 (b2 g x)⟩
    · exact ⟨fun x => by have := h.env.lt g x; omega, fun x => by have := h.ses.lt g x; omega, fun x => by have := bagOwn.lt h.bag (b2 g x); omega⟩
end
end Go.Proofs.YtadcidbeealdpaaGreatDoor

/- Commands: those without an argument, greetings; a prefix is cut. -/
namespace Go.Proofs.YtadcidbeealdpaaGreatDoor
open Go.RowKit

def cmdVal (k : PCmd) : Value := .agg #[.int .i64 (k.verb : Int), .string (bs k.name), .int .i64 (k.size : Int), .string (bs k.shown)]
def wrongC : PCmd := ⟨1, [], 0, []⟩
def loneC (v : Nat) : PCmd := ⟨v, [], 0, []⟩
def loneOr (v : Nat) (has : Bool) : PCmd := if has then wrongC else loneC v
def greetC (v : Nat) (arg : List UInt8) : PCmd := if domB arg then loneC v else wrongC
/-- a struct of four cells is written -/
theorem four_put {w1 : World} {k : Nat} {a b c d x y z u : Value} {t : TypeId} (h : w1.heap[k]? = some (.cells #[a, b, c, d] t (0, 0))) :
    let W := (((w1.setCell ⟨k, 0, none⟩ x).setCell ⟨k, 1, none⟩ y).setCell ⟨k, 2, none⟩ z).setCell ⟨k, 3, none⟩ u
    W.cell? ⟨k, 0, none⟩ = some x ∧ W.cell? ⟨k, 1, none⟩ = some y ∧ W.cell? ⟨k, 2, none⟩ = some z ∧ W.cell? ⟨k, 3, none⟩ = some u ∧ Same k w1 W := by
  intro W
  have h1 := heap_setCell_same w1 k 0 _ _ x h
  have h2 := heap_setCell_same _ k 1 _ _ y h1
  have h3 := heap_setCell_same _ k 2 _ _ z h2
  have h4 := heap_setCell_same _ k 3 _ _ u h3
  exact ⟨by rw [Lib.cell_of_heap h4]; rfl, by rw [Lib.cell_of_heap h4]; rfl, by rw [Lib.cell_of_heap h4]; rfl, by rw [Lib.cell_of_heap h4]; rfl, ((((Same.refl _ _).setCell _).setCell _).setCell _).setCell _⟩

set_option maxHeartbeats 400000 in
set_option maxRecDepth 100000 in
theorem readLone_any (v : Nat) (has : Bool) (w : World) : Calls Tryz.prog 85 #[.int .i64 (v : Int), .bool has] w fun e w' => e = .returned (cmdVal (loneOr v has)) ∧ Below w.heap.size w w' := by
  cases has with
  | true =>
    go_enter Tryz.func85, Tryz.ntmps85
    go_wp2_with fail
    have X := heap_alloc_new w (.cells #[.int .i64 1, .string ⟨#[]⟩, .int .i64 0, .string ⟨#[]⟩] 123)
    have c0 : (w.alloc (.cells #[.int .i64 1, .string ⟨#[]⟩, .int .i64 0, .string ⟨#[]⟩] 123)).cell? ⟨w.heap.size, 0, none⟩ = some (.int .i64 1) := by rw [Lib.cell_of_heap X]; rfl
    have c1 : (w.alloc (.cells #[.int .i64 1, .string ⟨#[]⟩, .int .i64 0, .string ⟨#[]⟩] 123)).cell? ⟨w.heap.size, 1, none⟩ = some (.string ⟨#[]⟩) := by rw [Lib.cell_of_heap X]; rfl
    have c2 : (w.alloc (.cells #[.int .i64 1, .string ⟨#[]⟩, .int .i64 0, .string ⟨#[]⟩] 123)).cell? ⟨w.heap.size, 2, none⟩ = some (.int .i64 0) := by rw [Lib.cell_of_heap X]; rfl
    have c3 : (w.alloc (.cells #[.int .i64 1, .string ⟨#[]⟩, .int .i64 0, .string ⟨#[]⟩] 123)).cell? ⟨w.heap.size, 3, none⟩ = some (.string ⟨#[]⟩) := by rw [Lib.cell_of_heap X]; rfl
    refine bodyPost_ret (v := .agg #[.int .i64 1, .string ⟨#[]⟩, .int .i64 0, .string ⟨#[]⟩]) (by simp [results, Tryz.results85, go_sem, c0, c1, c2, c3]) rfl ?_
    exact ⟨rfl, (Below.refl _ _).alloc (Nat.le_refl _) _⟩
  | false =>
    go_enter Tryz.func85, Tryz.ntmps85
    go_wp2_with fail
    have X := heap_alloc_new w (.cells #[.int .i64 (v : Int), .string ⟨#[]⟩, .int .i64 0, .string ⟨#[]⟩] 123)
    have c0 : (w.alloc (.cells #[.int .i64 (v : Int), .string ⟨#[]⟩, .int .i64 0, .string ⟨#[]⟩] 123)).cell? ⟨w.heap.size, 0, none⟩ = some (.int .i64 (v : Int)) := by rw [Lib.cell_of_heap X]; rfl
    have c1 : (w.alloc (.cells #[.int .i64 (v : Int), .string ⟨#[]⟩, .int .i64 0, .string ⟨#[]⟩] 123)).cell? ⟨w.heap.size, 1, none⟩ = some (.string ⟨#[]⟩) := by rw [Lib.cell_of_heap X]; rfl
    have c2 : (w.alloc (.cells #[.int .i64 (v : Int), .string ⟨#[]⟩, .int .i64 0, .string ⟨#[]⟩] 123)).cell? ⟨w.heap.size, 2, none⟩ = some (.int .i64 0) := by rw [Lib.cell_of_heap X]; rfl
    have c3 : (w.alloc (.cells #[.int .i64 (v : Int), .string ⟨#[]⟩, .int .i64 0, .string ⟨#[]⟩] 123)).cell? ⟨w.heap.size, 3, none⟩ = some (.string ⟨#[]⟩) := by rw [Lib.cell_of_heap X]; rfl
    refine bodyPost_ret (v := .agg #[.int .i64 (v : Int), .string ⟨#[]⟩, .int .i64 0, .string ⟨#[]⟩]) (by simp [results, Tryz.results85, go_sem, c0, c1, c2, c3]) rfl ?_
    exact ⟨rfl, (Below.refl _ _).alloc (Nat.le_refl _) _⟩

set_option maxHeartbeats 400000 in
set_option maxRecDepth 100000 in
theorem readGreet_any (v : Nat) (arg : List UInt8) (m : Int) (w : World) (hl : arg.length ≤ 1048576) (hm : w.cell? ⟨0, 0, none⟩ = some (.int .i64 m)) : Calls Tryz.prog 86 #[.int .i64 (v : Int), .string (bs arg)] w fun e w' => e = .returned (cmdVal (greetC v arg)) ∧ Below w.heap.size w w' := by
  obtain ⟨W0, hW0⟩ : ∃ W0 : World, w.alloc (.cells #[.int .i64 0, .string ⟨#[]⟩, .int .i64 0, .string ⟨#[]⟩] 123) = W0 := ⟨_, rfl⟩
  have B0 : Below w.heap.size w W0 := by rw [← hW0]; exact (Below.refl _ _).alloc (Nat.le_refl _) _
  have X0 : W0.heap[w.heap.size]? = some (.cells #[.int .i64 0, .string ⟨#[]⟩, .int .i64 0, .string ⟨#[]⟩] 123 (0, 0)) := by rw [← hW0]; exact heap_alloc_new w _
  have hs := bs_size arg
  have HD := Lib.hid (isDomain_any (bs arg) m W0 (by unfold maxLen; omega) ((B0.cell (block_lt hm)).trans hm))
  have HB0 := Lib.hid B0
  have HX0 := Lib.hid X0
  have HW0 := Lib.hid hW0
  clear B0 X0 hW0 hm
  go_enter Tryz.func86, Tryz.ntmps86
  go_wp2_with fail
  rw [HW0.out]
  refine HD.out.mono ?_
  rintro e w1 ⟨rfl, hb1⟩
  rw [bs_toList]
  have X1 := below_some hb1 HX0.out
  have p0 : w1.cell? ⟨w.heap.size, 0, none⟩ = some (.int .i64 0) := by rw [Lib.cell_of_heap X1]; rfl
  have p1 : w1.cell? ⟨w.heap.size, 1, none⟩ = some (.string ⟨#[]⟩) := by rw [Lib.cell_of_heap X1]; rfl
  have p2 : w1.cell? ⟨w.heap.size, 2, none⟩ = some (.int .i64 0) := by rw [Lib.cell_of_heap X1]; rfl
  have p3 : w1.cell? ⟨w.heap.size, 3, none⟩ = some (.string ⟨#[]⟩) := by rw [Lib.cell_of_heap X1]; rfl
  have q0 := Lib.frozen_of_heap X1 0
  have q1 := Lib.frozen_of_heap X1 1
  have q2 := Lib.frozen_of_heap X1 2
  have q3 := Lib.frozen_of_heap X1 3
  have HX1 := Lib.hid X1
  have HB1 := Lib.hid (HB0.out.trans (hb1.mono HB0.out.size))
  obtain ⟨t, et⟩ : ∃ t, domB arg = t := ⟨_, rfl⟩
  rw [et]
  have HT : Hid (greetC v arg = if t then loneC v else wrongC) := Lib.hid (by unfold greetC; rw [et])
  clear X1 hb1 et HD
  cases t with
  | true =>
    go_wp2_with fail
    obtain ⟨r0, r1, r2, r3, rS⟩ := four_put (x := .int .i64 (v : Int)) (y := .string ⟨#[]⟩) (z := .int .i64 0) (u := .string ⟨#[]⟩) HX1.out
    refine bodyPost_ret (v := .agg #[.int .i64 (v : Int), .string ⟨#[]⟩, .int .i64 0, .string ⟨#[]⟩]) (by simp [results, Tryz.results86, go_sem, r0, r1, r2, r3]) rfl ?_
    exact ⟨by rw [HT.out]; rfl, HB1.out.trans (rS.below (Nat.le_refl _))⟩
  | false =>
    go_wp2_with fail
    obtain ⟨r0, r1, r2, r3, rS⟩ := four_put (x := .int .i64 1) (y := .string ⟨#[]⟩) (z := .int .i64 0) (u := .string ⟨#[]⟩) HX1.out
    refine bodyPost_ret (v := .agg #[.int .i64 1, .string ⟨#[]⟩, .int .i64 0, .string ⟨#[]⟩]) (by simp [results, Tryz.results86, go_sem, r0, r1, r2, r3]) rfl ?_
    exact ⟨by rw [HT.out]; rfl, HB1.out.trans (rS.below (Nat.le_refl _))⟩

/-- all letters of the first 128 -/
def asciiL (l : List UInt8) : Prop := ∀ x ∈ l, x.toNat < 128
def cutPS (s p : List UInt8) : Option (List UInt8) := if s.length < p.length then none else if Lib.equalFold (s.take p.length) p then some (s.drop p.length) else none
def cutPV (o : Option (List UInt8)) : Value :=
  match o with
  | some r => .tuple #[.string (bs r), .bool true]
  | none => .tuple #[.string ⟨#[]⟩, .bool false]
set_option maxHeartbeats 400000 in
set_option maxRecDepth 100000 in
theorem cutPrefix_any (s p : List UInt8) (w : World) (_hs : s.length ≤ 1048576) (hp : p.length ≤ 100) (h1 : asciiL s) (h2 : asciiL p) : Calls Tryz.prog 124 #[.string (bs s), .string (bs p)] w fun e w' => e = .returned (cutPV (cutPS s p)) ∧ w = w' := by
  have e1 := bs_size s
  have e2 := bs_size p
  by_cases hlt : s.length < p.length
  · have HC : Hid (cutPS s p = none) := Lib.hid (by unfold cutPS; rw [if_pos hlt])
    have hi : (s.length : Int) < (p.length : Int) := by omega
    go_enter Tryz.func124, Tryz.ntmps124
    go_wp2_with fail
    go_ret2
    exact ⟨by rw [HC.out]; rfl, rfl⟩
  · have hi : ¬ (s.length : Int) < (p.length : Int) := by omega
    have hta : (bs s).extract 0 p.length = bs (s.take p.length) := by rw [bs_extract, List.drop_zero]
    have hda : (bs s).extract p.length s.length = bs (s.drop p.length) := by rw [bs_extract, List.take_length]
    have HF : Hid (∀ W : World, Calls Tryz.prog 167 #[.string (bs (s.take p.length)), .string (bs p)] W fun e w' => e = .returned (.bool (Lib.equalFold (s.take p.length) p)) ∧ w' = W) := Lib.hid (fun W => Tryz.strings_EqualFold (bs (s.take p.length)) (bs p) W (by rw [bs_size, List.length_take]; omega) (fun j b hb => h1 b (List.mem_of_mem_take (List.mem_of_getElem? hb))) (fun j b hb => h2 b (List.mem_of_getElem? hb)))
    have HC : Hid (cutPS s p = if Lib.equalFold (s.take p.length) p then some (s.drop p.length) else none) := Lib.hid (by unfold cutPS; rw [if_neg hlt])
    obtain ⟨t, et⟩ : ∃ t, Lib.equalFold (s.take p.length) p = t := ⟨_, rfl⟩
    rw [et] at HF HC
    clear h1 h2 et
    go_enter Tryz.func124, Tryz.ntmps124
    go_wp2_with fail
    refine (HF.out w).mono ?_
    rintro e w1 ⟨rfl, rfl⟩
    cases t with
    | true =>
      go_wp2_with fail
      go_ret2
      exact ⟨by rw [HC.out]; rfl, rfl⟩
    | false =>
      go_wp2_with fail
      go_ret2
      exact ⟨by rw [HC.out]; rfl, rfl⟩
end Go.Proofs.YtadcidbeealdpaaGreatDoor
