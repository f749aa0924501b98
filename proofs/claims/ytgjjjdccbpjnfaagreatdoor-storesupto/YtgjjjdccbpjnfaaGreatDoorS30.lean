import Derived.Test.YtgjjjdccbpjnfaaGreatDoorS23
import Derived.Test.YtgjjjdccbpjnfaaGreatDoorS26
import Derived.Test.YtgjjjdccbpjnfaaGreatDoorS29
import Derived.Test.YtgjjjdccbpjnfaaGreatDoorS15

/- The program's post and the document's. -/
namespace Go.Proofs.YtgjjjdccbpjnfaaGreatDoor
open Go.RowKit

theorem BagIn.moves {base pb mb : Nat} {q : Nat → Nat} {vr : Value} {S : PStore} {w w' : World} (h : BagIn base w pb mb q vr S) (h1 : ∀ (k : Nat) (cur : Array Value) (z : Nat × Nat), w.heap[k]? = some (.cells cur 88 z) → w'.heap[k]? = some (.cells cur 88 z)) (h2 : ∀ (k : Nat) (es : Array MapEntry) (c : Nat), w.heap[k]? = some (.map es c) → w'.heap[k]? = some (.map es c)) (h3 : ∀ (k : Nat) (cur : Array Value) (z : Nat × Nat), w.heap[k]? = some (.cells cur 136 z) → w'.heap[k]? = some (.cells cur 136 z)) (h4 : ∀ (k : Nat) (cur : Array Value) (z : Nat × Nat), w.heap[k]? = some (.cells cur 140 z) → w'.heap[k]? = some (.cells cur 140 z)) : BagIn base w' pb mb q vr S :=
  ⟨h1 _ _ _ h.bag, h2 _ _ _ h.map, h.pbb, h.mbb, h.one, fun i hi => by
    obtain ⟨a, v, x, b, c⟩ := h.mail i hi
    exact ⟨a, v, x, h3 _ _ _ b, ownsRow_keeps c fun g cur e _ => h4 _ _ _ e⟩⟩
/-- a post's blocks: where none of their types is written, the post is as it was -/
def postTypes : List TypeId := [54, 88, 136, 140, 5]
theorem PostIn.touch {base pp : Nat} {w w' : World} {l : List UInt8} {ts : List TypeId} (h : PostIn base w pp l) (ht : Touch ts w w') (hd : ∀ t ∈ ts, t ∉ postTypes) : PostIn base w' pp l := by
  have mv : ∀ (t : TypeId), t ∈ postTypes → ∀ (k : Nat) (cur : Array Value) (z : Nat × Nat), w.heap[k]? = some (.cells cur t z) → w'.heap[k]? = some (.cells cur t z) := fun t htt k cur z e => ht.cells e (fun hm => hd t hm htt)
  obtain ⟨pb, mb, q, vr, ⟨C, a, hC⟩, b, c, d, f⟩ := h
  exact ⟨pb, mb, q, vr, ⟨C, mv _ (by decide) _ _ _ a, hC⟩, b.moves (mv _ (by decide)) (fun k es c e => ht.block k _ e (fun t _ => by simp [tagOf])) (mv _ (by decide)) (mv _ (by decide)), c, d.moves (mv _ (by decide)), f⟩
theorem PostIn.moves {base pp : Nat} {w w' : World} {l : List UInt8} (h : PostIn base w pp l) (hk : ∀ (k : Nat) (o : Obj), base ≤ k → w.heap[k]? = some o → w'.heap[k]? = some o) : PostIn base w' pp l := by
  obtain ⟨pb, mb, q, vr, ⟨C, a, hC⟩, b, c, d, f1, f2⟩ := h
  refine ⟨pb, mb, q, vr, ⟨C, hk _ _ f1 a, hC⟩, ⟨hk _ _ b.pbb b.bag, hk _ _ b.mbb b.map, b.pbb, b.mbb, b.one, fun i hi => ?_⟩, c, ?_, f1, f2⟩
  · obtain ⟨r1, v, x, r2, r3⟩ := b.mail i hi
    exact ⟨r1, v, x, hk _ _ r1 r2, ownsRow_keeps r3 fun g cur e hg => hk _ _ hg e⟩
  · obtain ⟨g, cap, cur, z, e, hg, hc⟩ := d
    have hg' := hk g _ (f2 g (by rw [e]; rfl)) hg
    exact ⟨g, cap, cur, z, e, hg', fun j hj => (World.cell?_of_block (w := w) (hg'.trans hg.symm)).trans (hc j hj)⟩
def TwinIn (w : World) (vx vw : Value) : Prop :=
  (vx = .pointer none ∧ vw = .pointer none) ∨ ∃ base pp p l, vx = .pointer (some ⟨pp, 0, none⟩) ∧ vw = .pointer (some ⟨p, 0, none⟩) ∧ PostIn base w pp l ∧ RefHas w p (l.take (readS l).2) ∧ l.length ≤ 1048576
theorem TwinIn.touch {w w' : World} {vx vw : Value} {ts : List TypeId} (h : TwinIn w vx vw) (ht : Touch ts w w') (hd : ∀ t ∈ ts, t ∉ postTypes) (hr : 150 ∉ ts) : TwinIn w' vx vw := by
  rcases h with h | ⟨base, pp, p, l, a, b, c, d, e⟩
  · exact .inl h
  · exact .inr ⟨base, pp, p, l, a, b, c.touch ht hd, d.touch ht hr, e⟩
theorem TwinIn.below {w w' : World} {vx vw : Value} (h : TwinIn w vx vw) (hb : Below w.heap.size w w') : TwinIn w' vx vw := h.touch (Touch.below (ts := []) hb) (by simp) (by simp)
theorem TwinIn.books {w w' : World} {vx vw : Value} (h : TwinIn w vx vw) (ht : Touch bkTypes w w') : TwinIn w' vx vw := h.touch ht (by decide) (by decide)
end Go.Proofs.YtgjjjdccbpjnfaaGreatDoor

/- Settings that were lent can be read. -/
namespace Go.Proofs.YtgjjjdccbpjnfaaGreatDoor
open Go.RowKit

theorem LentRows.below {c : Cfg} {B : Nat} {w w' : World} (h : LentRows c B w) (hb : Below w.heap.size w w') : LentRows c B w' := by
  obtain ⟨D, N, U, V, ⟨r1, r2, r3, r4⟩, f⟩ := h
  have lt : ∀ {b : Nat} {o : Obj}, w.heap[b]? = some o → b < w.heap.size := fun e => by
    rcases Nat.lt_or_ge _ w.heap.size with h' | h'
    · exact h'
    · rw [Array.getElem?_eq_none h'] at e; cases e
  exact ⟨D, N, U, V, ⟨(hb.block _ (lt r1)).trans r1, (hb.block _ (lt r2)).trans r2, (hb.block _ (lt r3)).trans r3, (hb.block _ (lt r4)).trans r4⟩, f⟩
theorem LentRows.size {c : Cfg} {B : Nat} {w : World} (h : LentRows c B w) : B + 7 ≤ w.heap.size := by
  obtain ⟨D, N, U, V, ⟨_, _, _, r4⟩, _⟩ := h
  rcases Nat.lt_or_ge (B + 6) w.heap.size with h' | h'
  · omega
  · rw [Array.getElem?_eq_none h'] at r4; cases r4

theorem lent_at {c : Cfg} {B : Nat} {w wa : World} {vD vN vU vW : Value} (hc : CfgAt wa c vD vN vU vW) (h : LentRows c B w) :
    CfgAt w c (.slice (some ⟨B + 1 + 1 + 1, 0, none⟩) c.doms.length (c.doms.length + 8)) (.slice (some ⟨B + 1 + 1 + 1 + 1, 0, none⟩) c.nets.length (c.nets.length + 8)) (.slice (some ⟨B + 1 + 1 + 1 + 1 + 1, 0, none⟩) c.users.length (c.users.length + 8)) (.slice (some ⟨B + 1 + 1 + 1 + 1 + 1 + 1, 0, none⟩) c.waits.length (c.waits.length + 8)) := by
  obtain ⟨D, N, U, V, ⟨r1, r2, r3, r4⟩, f1, f2, f3, f4⟩ := h
  refine ⟨⟨hc.1.1, .inr ⟨_, _, _, rfl, by omega, fun j hj => ?_⟩⟩, ⟨hc.2.1.1, .inr ⟨_, _, _, rfl, by omega, fun j hj => ?_⟩⟩, ⟨hc.2.2.1.1, .inr ⟨_, _, _, rfl, by omega, fun j hj => ?_⟩⟩, ⟨hc.2.2.2.1, .inr ⟨_, _, _, rfl, by omega, fun j hj => ?_⟩⟩⟩
  · rw [Nat.zero_add]; exact (Lib.cell_of_heap r1 j).trans (f1.2.1 j hj)
  · rw [Nat.zero_add]; exact (Lib.cell_of_heap r2 j).trans (f2.2.1 j hj)
  · rw [Nat.zero_add]; exact (Lib.cell_of_heap r3 j).trans (f3.2.1 j hj)
  · rw [Nat.zero_add]; exact (Lib.cell_of_heap r4 j).trans (f4.2.1 j hj)
end Go.Proofs.YtgjjjdccbpjnfaaGreatDoor
