import Derived.Test.YtadcidbeealdpaaGreatDoorS07
import Derived.Test.YtadcidbeealdpaaGreatDoorS09
import Derived.Deep.QuietTactic
import Derived.BigQuiet
import Derived.Test.YtadcidbeealdpaaGreatDoorS06
import Derived.Laws.CopyRow
import Derived.Laws.MakeOwn
import Derived.Maps.AppendAt

/- What is kept, read from the front: the document's Read. -/
namespace Go.Proofs.YtadcidbeealdpaaGreatDoor
open Go.RowKit

/-! ### plain -/
def readF : Nat → PStore → Nat → List UInt8 → PStore × Nat
  | 0, S, k, _ => (S, k)
  | f + 1, S, k, l =>
    match cutS l with
    | none => (S, k)
    | some c => match S.takes c.1 with
      | none => (S, k)
      | some S' => readF f S' (k + 8 + c.1.length) c.2
/-- what is read of l, and how many bytes -/
def readS (l : List UInt8) : PStore × Nat := readF (l.length + 1) ⟨[], 0⟩ 0 l
theorem readF_no {f k : Nat} {S : PStore} {l : List UInt8} (h : cutS l = none) : readF (f + 1) S k l = (S, k) := by
  rw [readF, h]
theorem readF_not {f k : Nat} {S : PStore} {l : List UInt8} {c : List UInt8 × List UInt8} (h : cutS l = some c) (ht : S.takes c.1 = none) : readF (f + 1) S k l = (S, k) := by
  rw [readF, h]; simp only [ht]
theorem readF_yes {f k : Nat} {S S' : PStore} {l : List UInt8} {c : List UInt8 × List UInt8} (h : cutS l = some c) (ht : S.takes c.1 = some S') : readF (f + 1) S k l = readF f S' (k + 8 + c.1.length) c.2 := by
  rw [readF, h]; simp only [ht]
theorem cut_doc (l : List UInt8) : cutS l = if l.length < 8 + be (l.take 4) ∨ ¬ be ((l.drop 4).take 4) = crc ((l.drop 8).take (be (l.take 4))) then none else some ((l.drop 8).take (be (l.take 4)), (l.drop 8).drop (be (l.take 4))) := by
  have e8 : (l.drop 4).drop 4 = l.drop 8 := by rw [List.drop_drop]
  have l8 : (l.drop 8).length = l.length - 8 := List.length_drop
  unfold cutS numS
  by_cases h4 : 4 ≤ l.length
  · rw [if_pos h4]
    simp only [sb]
    by_cases h8 : 4 ≤ (l.drop 4).length
    · rw [if_pos h8]
      simp only [sb]
      rw [e8]
      unfold bytesS
      rw [List.length_drop] at h8
      obtain ⟨r, er⟩ : ∃ r, l.drop 8 = r := ⟨_, rfl⟩
      rw [er] at l8 ⊢
      by_cases hn : be (l.take 4) ≤ r.length
      · rw [if_pos hn]
        simp only [sb]
        by_cases hc : crc (r.take (be (l.take 4))) = be ((l.drop 4).take 4)
        · rw [if_pos hc, if_neg (by
            rintro (h | h)
            · omega
            · exact h hc.symm)]
        · rw [if_neg hc, if_pos (.inr (fun h => hc h.symm))]
      · rw [if_neg hn, if_pos (.inl (by omega))]; rfl
    · rw [if_neg h8]
      rw [List.length_drop] at h8
      rw [if_pos (.inl (by omega))]; rfl
  · rw [if_neg h4, if_pos (.inl (by omega))]; rfl
theorem outs_items (S : PStore) (K : Nat) (ps : List Nat) : (S.outs K ps).items.length = S.items.length ∧ (S.outs K ps).time = S.time := by
  unfold PStore.outs; simp
theorem failed_items (S : PStore) (m : PMail) (ps : List Nat) (T : Nat) : (S.failed m ps T).items.length ≤ S.items.length + 1 ∧ (S.failed m ps T).time = T := by
  unfold PStore.failed
  split <;> simp
theorem takes_sizes {S S' : PStore} {l : List UInt8} (h : S.takes l = some S') (ht : S.time ≤ 1000000000) : S'.items.length ≤ S.items.length + 1 ∧ S'.time ≤ 1000000000 := by
  cases l with
  | nil => cases h
  | cons c r =>
    unfold PStore.takes at h
    simp only at h
    split at h
    · split at h
      · rename_i hp
        injection h with h
        subst h
        rw [Bool.and_eq_true] at hp
        have h1 := hp.1
        unfold properB at h1
        simp only [Bool.and_eq_true, decide_eq_true_eq] at h1
        exact ⟨by simp, h1.1.1.1.1.1.2⟩
      · cases h
    · split at h
      · split at h
        · injection h with h
          subst h
          have := outs_items S ((listL r).1 - 1) (listL r).2
          exact ⟨by omega, by omega⟩
        · cases h
      · split at h
        · split at h
          · rename_i hp
            injection h with h
            subst h
            simp only [Bool.and_eq_true, decide_eq_true_eq] at hp
            have h1 := outs_items S ((listL (r.drop 4)).1 - 1) (listL (r.drop 4)).2
            have h2 := failed_items (S.outs ((listL (r.drop 4)).1 - 1) (listL (r.drop 4)).2) (S.mailOf ((listL (r.drop 4)).1 - 1)) (listL (r.drop 4)).2 (be (r.take 4))
            exact ⟨by omega, by omega⟩
          · cases h
        · cases h

theorem cutS_len {l : List UInt8} {c : List UInt8 × List UInt8} (h : cutS l = some c) : l.length = 8 + c.1.length + c.2.length := by
  rw [cut_doc] at h
  split at h
  · cases h
  · rename_i hn
    injection h with h
    subst h
    simp only [List.length_take, List.length_drop]
    have : ¬ l.length < 8 + be (l.take 4) := fun e => hn (.inl e)
    omega
theorem readF_len : ∀ (f k : Nat) (S : PStore) (l : List UInt8), 8 * S.items.length ≤ k → S.time ≤ 1000000000 → 8 * (readF f S k l).1.items.length ≤ (readF f S k l).2 ∧ (readF f S k l).2 ≤ k + l.length ∧ (readF f S k l).1.time ≤ 1000000000
  | 0, k, S, l, h, ht => ⟨h, by rw [readF]; omega, ht⟩
  | f + 1, k, S, l, h, ht => by
    cases hc : cutS l with
    | none => rw [readF_no hc]; exact ⟨h, by show k ≤ _; omega, ht⟩
    | some c =>
      cases hs : S.takes c.1 with
      | none => rw [readF_not hc hs]; exact ⟨h, by show k ≤ _; omega, ht⟩
      | some S' =>
        have h1 := takes_sizes hs ht
        have h2 := cutS_len hc
        have h3 := readF_len f (k + 8 + c.1.length) S' c.2 (by omega) h1.2
        rw [readF_yes hc hs]
        exact ⟨h3.1, by omega, h3.2.2⟩
theorem readS_len (l : List UInt8) : 8 * (readS l).1.items.length ≤ (readS l).2 ∧ (readS l).2 ≤ l.length ∧ (readS l).1.time ≤ 1000000000 := by
  have := readF_len (l.length + 1) 0 ⟨[], 0⟩ l (by simp) (by simp)
  unfold readS
  omega

end Go.Proofs.YtadcidbeealdpaaGreatDoor

/- The document's queue of what is kept. -/
namespace Go.Proofs.YtadcidbeealdpaaGreatDoor
open Go.RowKit

/-- a mail as it is told: with those who are still there -/
def PItem.now (x : PItem) : PMail := ⟨x.m.id, x.m.time, x.m.frm, (leftOf x.out x.out.length).map fun i => x.m.tos.getD i [], x.m.body⟩
def queueL (l : List PItem) : List PMail := (l.map PItem.now).filter fun m => !m.tos.isEmpty
theorem queueL_snoc (l : List PItem) (x : PItem) : queueL (l ++ [x]) = queueL l ++ (if x.now.tos.isEmpty then [] else [x.now]) := by
  unfold queueL
  rw [List.map_append, List.filter_append]
  cases h : x.now.tos.isEmpty <;> simp [h]
/-- mails in a row, each with the list of its recipients -/
def mailRow (l : List (PMail × Value)) : List Value := l.flatMap fun x => (mailCells x.1 x.2).toList
theorem mailRow_snoc (l : List (PMail × Value)) (x : PMail × Value) : mailRow (l ++ [x]) = mailRow l ++ (mailCells x.1 x.2).toList := by
  simp [mailRow]
/-- mails that can be read -/
def MailsAt (w : World) (v : Value) (ms : List PMail) : Prop :=
  ∃ l : List (PMail × Value), l.map (·.1) = ms ∧ RowAt w v l.length 5 (mailRow l) ∧ ∀ x ∈ l, RowAt w x.2 x.1.tos.length 1 (textCells x.1.tos)
/-- mails in memory of their own -/
def MailsIn (base : Nat) (w : World) (v : Value) (l : List (PMail × Value)) : Prop :=
  w.ownsRow base 54 5 v l.length (mailRow l) ∧ ∀ x ∈ l, w.ownsRow base 9 1 x.2 x.1.tos.length (textCells x.1.tos)
theorem info_mail : (Tryz.prog.info? 54).map (fun i => (i.zero, i.size, i.bytes)) = some (some (.agg #[.int .i64 0, .int .i64 0, .string ⟨#[]⟩, .slice none 0 0, .string ⟨#[]⟩]), 5, 72) := by kernel_rfl
theorem row_of_own' {w : World} {base n sz : Nat} {e : TypeId} {v : Value} {xs : List Value} (h : w.ownsRow base e sz v n xs) : RowAt w v n sz xs := by
  refine ⟨h.1, ?_⟩
  rcases h.2 with ⟨e1, h0⟩ | ⟨g, cp, cur, e1, _, hg, hle, _, _, htk⟩
  · exact .inl ⟨h0, none, 0, e1⟩
  · refine .inr ⟨g, 0, cp, e1, hle, fun j hj => ?_⟩
    rw [Nat.zero_add, Lib.cell_of_heap hg, ← Array.getElem?_toList, ← List.getElem?_take_of_lt hj, htk]
theorem MailsIn.at {base : Nat} {w : World} {v : Value} {l : List (PMail × Value)} (h : MailsIn base w v l) : MailsAt w v (l.map (·.1)) :=
  ⟨l, rfl, row_of_own' h.1, fun x hx => row_of_own' (h.2 x hx)⟩
theorem MailsIn.touch {base : Nat} {w w' : World} {v : Value} {l : List (PMail × Value)} {ts : List TypeId} (h : MailsIn base w v l) (ht : Touch ts w w') (h1 : 54 ∉ ts) (h2 : 9 ∉ ts) : MailsIn base w' v l :=
  ⟨ownsRow_touch ht h1 h.1, fun x hx => ownsRow_touch ht h2 (h.2 x hx)⟩

/-- one entry of the store, cell by cell -/
structure Entry (base : Nat) (w : World) (p K n : Nat) (x : PItem) (g cL gt ct bo : Nat) : Prop where
  head : w.cell? ⟨p, 0, none⟩ = some (.slice (some ⟨g, 0, none⟩) n cL)
  k0 : w.cell? ⟨g, K * 6, none⟩ = some (.int .i64 x.m.id)
  k1 : w.cell? ⟨g, K * 6 + 1, none⟩ = some (.int .i64 x.m.time)
  k2 : w.cell? ⟨g, K * 6 + 2, none⟩ = some (.string (bs x.m.frm))
  k3 : w.cell? ⟨g, K * 6 + 3, none⟩ = some (.slice (some ⟨gt, 0, none⟩) x.m.tos.length ct)
  k4 : w.cell? ⟨g, K * 6 + 4, none⟩ = some (.string (bs x.m.body))
  k5 : w.cell? ⟨g, K * 6 + 5, none⟩ = some (.slice (some ⟨bo, 0, none⟩) x.out.length x.out.length)
  item : ItemIn base w (x, .slice (some ⟨gt, 0, none⟩) x.m.tos.length ct, bo)
structure QueueNext (wo w11 : World) (q id time : Nat) (frm body : List UInt8) (v vl : Value) (n : Nat) (xs : List Value) (k : Nat) (Ts : List (List UInt8)) : Prop where
  mail : MailAt w11 q id time frm v body
  own : w11.ownsRow (q + 1) 9 1 v k (textCells Ts)
  ints : w11.ownsRow (q + 1) 3 1 vl n xs
  below : Below q wo w11
  size : q + 1 ≤ w11.heap.size
theorem queue_step {wo w9 w10 : World} {q id time n k : Nat} {frm body t : List UInt8} {v v' vl : Value} {xs : List Value} {Ts : List (List UInt8)} {o : Obj} (M9 : MailAt w9 q id time frm v body) (O9 : w9.ownsRow (q + 1) 9 1 v k (textCells Ts)) (I9 : w9.ownsRow (q + 1) 3 1 vl n xs) (B9 : Below q wo w9) (Z9 : q + 1 ≤ w9.heap.size)
    (hown : w10.ownsRow (q + 1) 9 1 v' (k + 1) (textCells Ts ++ [.string (bs t)])) (hgrow : (w9.alloc o).drew.grownBy w10 v.ownBlock) :
    QueueNext wo (w10.setCell ⟨q, 3, none⟩ v') q id time frm body v' vl n xs (k + 1) (Ts ++ [t]) := by
  have hrow : ∀ j, v.ownBlock = some j → q + 1 ≤ j := fun j hj => (O9.lt j hj).1
  have hsz : q + 1 ≤ w10.heap.size := by have := hgrow.size; simp at this; omega
  have hB : Below w9.heap.size w9 (w9.alloc o).drew := ((Below.refl _ _).alloc (Nat.le_refl _) o).drew
  have hM : w10.heap[q]? = some (.cells #[.int .i64 id, .int .i64 time, .string (bs frm), v, .string (bs body)] 54 (0, 0)) := by
    rw [hgrow.block q (by simp; omega) (fun e => by have := hrow _ e.symm; omega), hB.block q (by omega)]
    exact M9
  have hS : Same q w10 (w10.setCell ⟨q, 3, none⟩ v') := (Same.refl _ _).setCell _
  refine ⟨heap_setCell_same w10 q 3 _ _ v' hM, ?_, ?_, ?_, ?_⟩
  · rw [show textCells (Ts ++ [t]) = textCells Ts ++ [.string (bs t)] by simp [textCells]]
    exact ownsRow_same hown hS (by omega)
  · refine ownsRow_same ?_ hS (by omega)
    refine ((I9.alloc o).drew).kept hgrow ?_
    rcases I9.2 with ⟨e, _⟩ | ⟨g, cap, cur, e, _, hg, _⟩
    · subst e; exact .inl rfl
    · refine .inr fun e2 => ?_
      rcases O9.2 with ⟨e1, _⟩ | ⟨g', cap', cur', e1, _, hg', _⟩
      · rw [e1, e] at e2; cases e2
      · rw [e1, e] at e2
        injection e2 with e2
        exact tag_ne hg hg' (by decide) e2
  · exact (((B9.trans (hB.mono (by omega))).grown hgrow (by simp; omega) (fun j hj => by have := hrow j hj; omega))).trans (hS.below (Nat.le_refl _))
  · rw [hS.1]; exact hsz

theorem queue_put {z : Nat} {w1 w9 w10 : World} {v v' vt : Value} {rows : List (PMail × Value)} {m : PMail} {o : Obj} (hT : ∀ x ∈ rows, w9.ownsRow z 9 1 x.2 x.1.tos.length (textCells x.1.tos)) (M9 : w9.ownsRow z 54 5 v rows.length (mailRow rows)) (V9 : w9.ownsRow z 9 1 vt m.tos.length (textCells m.tos)) (B9 : Below z w1 w9) (hz : z ≤ w9.heap.size)
    (hown : w10.ownsRow z 54 5 v' (rows.length + 1) (mailRow rows ++ (mailCells m vt).toList)) (hgrow : (w9.alloc o).grownBy w10 v.ownBlock) : MailsIn z w10 v' (rows ++ [(m, vt)]) ∧ Below z w1 w10 := by
  have far : ∀ (u : Value) (n : Nat) (xs : List Value), w9.ownsRow z 9 1 u n xs → w10.ownsRow z 9 1 u n xs := fun u n xs h => by
    refine (h.alloc o).kept hgrow ?_
    rcases h.2 with ⟨e, _⟩ | ⟨g, cap, cur, e, _, hg, _⟩
    · subst e; exact .inl rfl
    · refine .inr fun e2 => ?_
      rcases M9.2 with ⟨e1, _⟩ | ⟨g', cap', cur', e1, _, hg', _⟩
      · rw [e1, e] at e2; cases e2
      · rw [e1, e] at e2
        injection e2 with e2
        exact tag_ne hg hg' (by decide) e2
  refine ⟨⟨?_, fun x hx => ?_⟩, ?_⟩
  · rw [List.length_append, mailRow_snoc]; exact hown
  · rcases List.mem_append.1 hx with hx | hx
    · exact far _ _ _ (hT x hx)
    · simp only [List.mem_singleton] at hx
      subst hx
      exact far _ _ _ V9
  · exact (B9.alloc hz o).grown hgrow (by simp; omega) (fun j hj => (M9.lt j hj).1)

end Go.Proofs.YtadcidbeealdpaaGreatDoor

/- The document's post: mail that is new is due now. -/
namespace Go.Proofs.YtadcidbeealdpaaGreatDoor
open Go.RowKit

def dueLen (w : World) (p : Nat) : Nat :=
  match w.cell? ⟨p, 12, none⟩ with
  | some (.slice _ n _) => n
  | _ => 0
theorem Touch.toBelow {a b : World} {B : Nat} (h : Touch [] a b) (hB : B ≤ a.heap.size) : Below B a b :=
  ⟨h.still.1, h.still.2.1, h.still.2.2, h.size, fun k hk => by
    have hk' : k < a.heap.size := by omega
    have e := Array.getElem?_eq_getElem hk'
    rw [e]
    exact h.block k _ e (by simp)⟩
theorem natCells_snoc (l : List Nat) (n : Nat) : natCells (l ++ [n]) = natCells l ++ [.int .i64 (n : Int)] := by simp [natCells]
/-- one row grows, the other stays -/
theorem grow_apart {base H g n m cap k : Nat} {w9 w10 : World} {x y : Value} {xs ys zs : List Value} {wa : World} (_hx : w9.ownsRow base 3 1 x n xs) (hy : w9.ownsRow base 3 1 y m ys) (ha : x.ownBlock = none ∨ x.ownBlock ≠ y.ownBlock) (hB : Below w9.heap.size w9 wa) (hgrow : wa.grownBy w10 x.ownBlock) (hat : x.ownBlock = some g ∨ g = H) (hH : w9.heap.size ≤ H)
    (_hown : w10.ownsRow base 3 1 (.slice (some ⟨g, 0, none⟩) k cap) k zs) : w10.ownsRow base 3 1 y m ys ∧ some g ≠ y.ownBlock := by
  refine ⟨(ownsRow_touch (Touch.below (ts := []) hB) (by simp) hy).kept hgrow ?_, fun e => ?_⟩
  · rcases ha with ha | ha
    · cases hyb : y.ownBlock with
      | none => exact .inl rfl
      | some b => exact .inr (by rw [ha]; simp)
    · exact .inr (Ne.symm ha)
  · rcases hat with hat | hat
    · rcases ha with ha | ha
      · rw [ha] at hat; cases hat
      · exact ha (hat.trans e)
    · have := (hy.lt g e.symm).2; omega
end Go.Proofs.YtadcidbeealdpaaGreatDoor

/- What is lent: rows that the law makes, and what copy does to them. -/
namespace Go.Proofs.YtadcidbeealdpaaGreatDoor
open Go.RowKit

/-- copy into a row of one's own, elements of whatever size -/
theorem run_copy_any {P : Program} (w : World) (dT sT ty elem : TypeId) (sz g dLen dCap : Nat) (a : Addr) (sLen sCap : Nat) (cur : Array Value) (t : TypeId) (cs : List Value)
    (hu : P.underlying dT = some (.slice elem)) (hs : (P.info? elem).map (·.size) = some sz)
    (hg : w.heap[g]? = some (.cells cur t (0, 0))) (hle : sLen ≤ dLen) (hn : cs.length = sLen * sz)
    (hsrc : ∀ j v, cs[j]? = some v → w.cell? (a.add j) = some v) (hfit : cs.length ≤ cur.size) (h1 : ∀ v ∈ cs, v.oneCell' = true) :
    (Builtin.copy_ #[dT, sT] ty #[.slice (some ⟨g, 0, none⟩) dLen dCap, .slice (some a) sLen sCap]).run P w =
      .ok (goInt sLen) (w.setRow g (cs ++ cur.toList.drop cs.length).toArray) := by
  have hl := run_loadCells_list (P := P) w a cs hsrc
  have hst := run_storeCells_at P g 0 t cs 0 cur w hg (by simpa using hfit) h1
  have hmin : Nat.min sLen dLen = sLen := Nat.min_eq_left hle
  cases hq : P.info? elem with
  | none => simp [hq] at hs
  | some i =>
    have hi : i.size = sz := by simpa [hq] using hs
    rw [hn] at hl
    simp [Builtin.copy_, run_underlying hu, Builtin.lenOf, Builtin.firstCells, sizeOf, typeInfo, hq, hi, hmin, hl, hst]

/-- .. of no element -/
theorem run_copy_zero {P : Program} (w : World) (dT sT ty elem : TypeId) (sz g dLen dCap : Nat) (a : Option Addr) (sCap : Nat)
    (hu : P.underlying dT = some (.slice elem)) (hs : (P.info? elem).map (·.size) = some sz) :
    (Builtin.copy_ #[dT, sT] ty #[.slice (some ⟨g, 0, none⟩) dLen dCap, .slice a 0 sCap]).run P w = .ok (goInt 0) w := by
  cases hq : P.info? elem with
  | none => simp [hq] at hs
  | some i =>
    have hi : i.size = sz := by simpa [hq] using hs
    cases a with
    | none => simp [Builtin.copy_, run_underlying hu, Builtin.lenOf, Builtin.firstCells, sizeOf, typeInfo, hq, storeCells]
    | some a =>
      have hl := run_loadCells_list (P := P) w a [] (fun j v hj => by simp at hj)
      simp only [List.length_nil] at hl
      simp [Builtin.copy_, run_underlying hu, Builtin.lenOf, Builtin.firstCells, sizeOf, typeInfo, hq, hl, storeCells]

/-- a row of n and eight more elements, as make lays it -/
theorem make_row {P : Program} (t e : TypeId) (i : TypeInfo) (z : Value) (sz bytes n : Nat) (ht : P.underlying t = some (.slice e)) (hi : P.info? e = some i) (hz : i.zero = some z) (hsz : i.size = sz) (hby : i.bytes = bytes) (hb : bytes * (n + 8) ≤ 281474976710656) (hn : n ≤ 140737488351232) :
    ∃ C : Array Value, C.size = (n + 8) * sz ∧ ∀ w : World, (Instr.makeSlice t (.int .i64 ((n : Int) + 8)) (.int .i64 ((n : Int) + 8))).run P w = .ok (.slice (some ⟨w.heap.size, 0, none⟩) (n + 8) (n + 8)) (w.alloc (.cells C e)) := by
  refine ⟨madeCells z.cells ((n + 8) * i.size), ?_, fun w => ?_⟩
  · rw [← hsz]; simp [madeCells]
  · have := run_make (P := P) w t e i z ht hi hz .i64 .i64 ((n : Int) + 8) ((n : Int) + 8) (by omega) (Int.le_refl _) (by
      have h9 : ((bytes : Int) * ((n : Int) + 8)) = ((bytes * (n + 8) : Nat) : Int) := by rw [Int.natCast_mul, Int.natCast_add]; rfl
      rw [hby, h9]
      generalize bytes * (n + 8) = q at hb
      omega) (by omega)
    rw [show ((n : Int) + 8).toNat = n + 8 by omega] at this
    exact this

/-- a row is made and filled -/
theorem stage {P : Program} {T E : TypeId} {z : Value} {sz bytes : Nat} (hT : P.underlying T = some (.slice E)) (hinf : (P.info? E).map (fun i => (i.zero, i.size, i.bytes)) = some (some z, sz, bytes)) (n : Nat) (hb : bytes * (n + 8) ≤ 281474976710656) (hn : n ≤ 140737488351232) :
    ∃ C : Array Value, (∀ w : World, (Instr.makeSlice T (.int .i64 ((n : Int) + 8)) (.int .i64 ((n : Int) + 8))).run P w = .ok (.slice (some ⟨w.heap.size, 0, none⟩) (n + 8) (n + 8)) (w.alloc (.cells C E))) ∧
      ∀ (W : World) (v : Value) (cs : List Value), RowAt W v n sz cs → (∀ u ∈ cs, u.oneCell' = true) → ∃ (W2 : World) (D : Array Value), (∀ ty, (Builtin.copy_ #[T, T] ty #[.slice (some ⟨W.heap.size, 0, none⟩) (n + 8) (n + 8), v]).run P (W.alloc (.cells C E)) = .ok (goInt n) W2) ∧ Below W.heap.size W W2 ∧ W2.heap.size = W.heap.size + 1 ∧ W2.heap[W.heap.size]? = some (.cells D E (0, 0)) ∧ D.size = (n + 8) * sz ∧ ∀ j : Nat, j < n * sz → D[j]? = cs[j]? := by
  obtain ⟨i, hi, hz, hs, hby⟩ := info_parts hinf
  obtain ⟨C, hC, hmk⟩ := make_row T E i z sz bytes n hT hi hz hs hby hb hn
  have hsz : (P.info? E).map (·.size) = some sz := by rw [hi]; simp [hs]
  refine ⟨C, hmk, fun W v cs h h1 => ?_⟩
  have hal : (W.alloc (.cells C E)).heap[W.heap.size]? = some (.cells C E (0, 0)) := by
    show (W.heap.push (.cells C E))[W.heap.size]? = _
    simp
  obtain ⟨hl, ⟨rfl, a, cap, rfl⟩ | ⟨b, off, cap, rfl, hcp, hc⟩⟩ := h
  · refine ⟨W.alloc (.cells C E), C, fun ty => run_copy_zero _ T T ty E sz _ _ _ a cap hT hsz, (Below.refl _ _).alloc (Nat.le_refl _) _, by simp, hal, hC, fun j hj => by omega⟩
  · have hfit : cs.length ≤ C.size := by rw [hl, hC]; exact Nat.mul_le_mul_right _ (by omega)
    have hrun := fun ty => run_copy_any (W.alloc (.cells C E)) T T ty E sz W.heap.size (n + 8) (n + 8) ⟨b, off, none⟩ n cap C E cs hT hsz hal (by omega) hl (fun j u hj => by
      have hj' : j < n * sz := by
        have := (List.getElem?_eq_some_iff.1 hj).1
        omega
      have h2 := hc j hj'
      rw [hj] at h2
      have hlt := block_lt h2
      have e : Addr.add ⟨b, off, none⟩ j = ⟨b, off + j, none⟩ := by unfold Addr.add; simp
      rw [e, ((Below.refl W.heap.size W).alloc (Nat.le_refl _) _).cell (p := ⟨b, off + j, none⟩) hlt, h2]) hfit h1
    refine ⟨_, _, hrun, ?_, ?_, setRow_heap _ _ C _ E _ hal, ?_, ?_⟩
    · exact ⟨rfl, rfl, rfl, by simp, fun k hk => (setRow_other _ _ k _ (by omega)).trans (Below.heap_alloc _ _ _ hk)⟩
    · simp
    · simp; omega
    · intro j hj
      have : j < cs.length := by omega
      simp [List.getElem?_append, this]
end Go.Proofs.YtadcidbeealdpaaGreatDoor

/- What is lent: the walk. -/
namespace Go.Proofs.YtadcidbeealdpaaGreatDoor
open Go.RowKit

def CfgRm (c : Cfg) : Prop := 16 * c.doms.length ≤ 140737488351232 ∧ 16 * c.nets.length ≤ 140737488351232 ∧ 32 * c.users.length ≤ 140737488351232 ∧ 8 * c.waits.length ≤ 140737488351232

def Rows4 (w : World) (B : Nat) (D N U V : Array Value) : Prop :=
  w.heap[B + 3]? = some (.cells D 9 (0, 0)) ∧ w.heap[B + 4]? = some (.cells N 46 (0, 0)) ∧ w.heap[B + 5]? = some (.cells U 48 (0, 0)) ∧ w.heap[B + 6]? = some (.cells V 3 (0, 0))

theorem info_str : (Tryz.prog.info? 9).map (fun i => (i.zero, i.size, i.bytes)) = some (some (.string ⟨#[]⟩), 1, 16) := by kernel_rfl
theorem info_net : (Tryz.prog.info? 46).map (fun i => (i.zero, i.size, i.bytes)) = some (some (.agg #[.int .i64 0, .int .i64 0]), 2, 16) := by kernel_rfl
theorem info_user : (Tryz.prog.info? 48).map (fun i => (i.zero, i.size, i.bytes)) = some (some (.agg #[.string ⟨#[]⟩, .string ⟨#[]⟩]), 2, 32) := by kernel_rfl
theorem info_int : (Tryz.prog.info? 3).map (fun i => (i.zero, i.size, i.bytes)) = some (some (.int .i64 0), 1, 8) := by kernel_rfl

theorem one_strs (l : List ByteArray) : ∀ u ∈ strCellsOf l, u.oneCell' = true := by
  intro u hu; obtain ⟨x, _, rfl⟩ := List.mem_map.1 hu; rfl
theorem one_ints (l : List Int) : ∀ u ∈ intCells l, u.oneCell' = true := by
  intro u hu; obtain ⟨x, _, rfl⟩ := List.mem_map.1 hu; rfl
theorem one_nets (l : List (Int × Int)) : ∀ u ∈ netCells l, u.oneCell' = true := by
  intro u hu
  obtain ⟨x, _, h⟩ := List.mem_flatMap.1 hu
  rcases List.mem_cons.1 h with rfl | h
  · rfl
  · rcases List.mem_cons.1 h with rfl | h
    · rfl
    · cases h
theorem one_users (l : List (ByteArray × ByteArray)) : ∀ u ∈ userCells l, u.oneCell' = true := by
  intro u hu
  obtain ⟨x, _, h⟩ := List.mem_flatMap.1 hu
  rcases List.mem_cons.1 h with rfl | h
  · rfl
  · rcases List.mem_cons.1 h with rfl | h
    · rfl
    · cases h

/-- a row whose first n elements are cs, and k of the eight behind them the pattern -/
def Fill (n sz k : Nat) (cs pat : List Value) (A : Array Value) : Prop :=
  A.size = (n + 8) * sz ∧ (∀ j : Nat, j < n * sz → A[j]? = cs[j]?) ∧ ∀ j i : Nat, j < k → i < sz → A[(n + j) * sz + i]? = pat[i]?
theorem fill_one {n k : Nat} {cs : List Value} {p : Value} {A : Array Value} (h : Fill n 1 k cs [p] A) (hk : k < 8) : Fill n 1 (k + 1) cs [p] (A.setIfInBounds (n + k) p) := by
  obtain ⟨h1, h2, h3⟩ := h
  refine ⟨by simpa using h1, fun j hj => ?_, fun j i hj hi => ?_⟩
  · rw [Array.getElem?_setIfInBounds_ne (by omega)]; exact h2 j hj
  · have hi0 : i = 0 := by omega
    subst hi0
    by_cases e : j = k
    · subst e
      rw [show (n + j) * 1 + 0 = n + j by omega, Array.getElem?_setIfInBounds_self_of_lt (by omega)]; rfl
    · rw [Array.getElem?_setIfInBounds_ne (by omega)]; exact h3 j 0 (by omega) (by omega)
theorem fill_two {n k : Nat} {cs : List Value} {p q : Value} {A : Array Value} (h : Fill n 2 k cs [p, q] A) (hk : k < 8) : Fill n 2 (k + 1) cs [p, q] ((A.setIfInBounds ((n + k) * 2) p).setIfInBounds ((n + k) * 2 + 1) q) := by
  obtain ⟨h1, h2, h3⟩ := h
  refine ⟨by simpa using h1, fun j hj => ?_, fun j i hj hi => ?_⟩
  · rw [Array.getElem?_setIfInBounds_ne (by omega), Array.getElem?_setIfInBounds_ne (by omega)]; exact h2 j hj
  · have hi2 : i = 0 ∨ i = 1 := by omega
    by_cases e : j = k
    · subst e
      rcases hi2 with rfl | rfl
      · rw [Array.getElem?_setIfInBounds_ne (by omega), Nat.add_zero, Array.getElem?_setIfInBounds_self_of_lt (by omega)]; rfl
      · rw [Array.getElem?_setIfInBounds_self_of_lt (by simp; omega)]; rfl
    · rw [Array.getElem?_setIfInBounds_ne (by omega), Array.getElem?_setIfInBounds_ne (by omega)]; exact h3 j i (by omega) hi

theorem Rows4.setD {w : World} {B : Nat} {D N U V : Array Value} (h : Rows4 w B D N U V) (i : Nat) (v : Value) : Rows4 (w.setCell ⟨B + 3, i, none⟩ v) B (D.setIfInBounds i v) N U V :=
  ⟨heap_setCell_same w (B + 3) i D _ v h.1, (heap_setCell_other w ⟨B + 3, i, none⟩ (B + 4) v (by show B + 4 ≠ B + 3; omega)).trans h.2.1, (heap_setCell_other w ⟨B + 3, i, none⟩ (B + 5) v (by show B + 5 ≠ B + 3; omega)).trans h.2.2.1, (heap_setCell_other w ⟨B + 3, i, none⟩ (B + 6) v (by show B + 6 ≠ B + 3; omega)).trans h.2.2.2⟩
theorem Rows4.setN {w : World} {B : Nat} {D N U V : Array Value} (h : Rows4 w B D N U V) (i : Nat) (v : Value) : Rows4 (w.setCell ⟨B + 4, i, none⟩ v) B D (N.setIfInBounds i v) U V :=
  ⟨(heap_setCell_other w ⟨B + 4, i, none⟩ (B + 3) v (by show B + 3 ≠ B + 4; omega)).trans h.1, heap_setCell_same w (B + 4) i N _ v h.2.1, (heap_setCell_other w ⟨B + 4, i, none⟩ (B + 5) v (by show B + 5 ≠ B + 4; omega)).trans h.2.2.1, (heap_setCell_other w ⟨B + 4, i, none⟩ (B + 6) v (by show B + 6 ≠ B + 4; omega)).trans h.2.2.2⟩
theorem Rows4.setU {w : World} {B : Nat} {D N U V : Array Value} (h : Rows4 w B D N U V) (i : Nat) (v : Value) : Rows4 (w.setCell ⟨B + 5, i, none⟩ v) B D N (U.setIfInBounds i v) V :=
  ⟨(heap_setCell_other w ⟨B + 5, i, none⟩ (B + 3) v (by show B + 3 ≠ B + 5; omega)).trans h.1, (heap_setCell_other w ⟨B + 5, i, none⟩ (B + 4) v (by show B + 4 ≠ B + 5; omega)).trans h.2.1, heap_setCell_same w (B + 5) i U _ v h.2.2.1, (heap_setCell_other w ⟨B + 5, i, none⟩ (B + 6) v (by show B + 6 ≠ B + 5; omega)).trans h.2.2.2⟩
theorem Rows4.setV {w : World} {B : Nat} {D N U V : Array Value} (h : Rows4 w B D N U V) (i : Nat) (v : Value) : Rows4 (w.setCell ⟨B + 6, i, none⟩ v) B D N U (V.setIfInBounds i v) :=
  ⟨(heap_setCell_other w ⟨B + 6, i, none⟩ (B + 3) v (by show B + 3 ≠ B + 6; omega)).trans h.1, (heap_setCell_other w ⟨B + 6, i, none⟩ (B + 4) v (by show B + 4 ≠ B + 6; omega)).trans h.2.1, (heap_setCell_other w ⟨B + 6, i, none⟩ (B + 5) v (by show B + 5 ≠ B + 6; omega)).trans h.2.2.1, heap_setCell_same w (B + 6) i V _ v h.2.2.2⟩
/-- a cell of such a row is there, and may be written -/
theorem row_cell {w : World} {b j : Nat} {A : Array Value} {t : TypeId} (h : w.heap[b]? = some (.cells A t (0, 0))) (hj : j < A.size) : (∃ v, w.cell? ⟨b, j, none⟩ = some v) ∧ w.frozen? ⟨b, j, none⟩ = false :=
  ⟨⟨A[j], by rw [Lib.cell_of_heap h, Array.getElem?_eq_getElem hj]⟩, Lib.frozen_of_heap h j⟩

theorem three_allocs (w : World) (a b c : Obj) : (((w.alloc a).alloc b).alloc c).heap[w.heap.size + 1]? = some b ∧ (((w.alloc a).alloc b).alloc c).heap[w.heap.size + 1 + 1]? = some c := by
  constructor
  · show (((w.heap.push a).push b).push c)[w.heap.size + 1]? = some b
    rw [Array.getElem?_push, if_neg (by simp), Array.getElem?_push, if_pos (by simp)]
  · show (((w.heap.push a).push b).push c)[w.heap.size + 1 + 1]? = some c
    rw [Array.getElem?_push, if_pos (by simp)]
theorem Rows4.low {w : World} {B : Nat} {D N U V : Array Value} (h : Rows4 w B D N U V) {p : Addr} (hp : p.block < B + 3) (v : Value) : Rows4 (w.setCell p v) B D N U V :=
  ⟨(heap_setCell_other w p (B + 3) v (by omega)).trans h.1, (heap_setCell_other w p (B + 4) v (by omega)).trans h.2.1, (heap_setCell_other w p (B + 5) v (by omega)).trans h.2.2.1, (heap_setCell_other w p (B + 6) v (by omega)).trans h.2.2.2⟩

def beyond : Value := .string ⟨#[98, 101, 121, 111, 110, 100]⟩
/-- four rows from block B + 3 on, as lent leaves them -/
def LentRows (c : Cfg) (B : Nat) (w : World) : Prop :=
  ∃ D N U V : Array Value, Rows4 w B D N U V ∧ Fill c.doms.length 1 8 (strCellsOf c.doms) [beyond] D ∧ Fill c.nets.length 2 8 (netCells c.nets) [.int .i64 0, .int .i64 (-77)] N ∧ Fill c.users.length 2 8 (userCells c.users) [beyond, .string ⟨#[]⟩] U ∧ Fill c.waits.length 1 8 (intCells c.waits) [.int .i64 (-77)] V
def lentVal (c : Cfg) (B : Nat) : Value :=
  .agg #[.string c.host, .slice (some ⟨B + 1 + 1 + 1, 0, none⟩) c.doms.length (c.doms.length + 8), .slice (some ⟨B + 1 + 1 + 1 + 1, 0, none⟩) c.nets.length (c.nets.length + 8), .slice (some ⟨B + 1 + 1 + 1 + 1 + 1, 0, none⟩) c.users.length (c.users.length + 8), .int .i64 c.most, .int .i64 c.size, .slice (some ⟨B + 1 + 1 + 1 + 1 + 1 + 1, 0, none⟩) c.waits.length (c.waits.length + 8), .int .i64 c.life, .int .i64 c.room]
end Go.Proofs.YtadcidbeealdpaaGreatDoor

/- 'append' of a whole list to an empty one: the run. -/
namespace Go.Proofs.YtadcidbeealdpaaGreatDoor
open Go.RowKit

section
variable {P : Program}
theorem append_none (W : World) (t ty e : TypeId) (i : TypeInfo) (ht : P.underlying t = some (.slice e)) (hi : P.info? e = some i) (b : Nat) (a : Option Addr) (c : Nat) :
    (Builtin.append_ #[t, t] ty #[.slice (some ⟨b, 0, none⟩) 0 0, .slice a 0 c]).run P W = .ok (.slice (some ⟨b, 0, none⟩) 0 0) W := by
  cases a <;> simp [Builtin.append_, run_underlying ht, sizeOf, typeInfo, hi, Builtin.lenOf, Builtin.firstCells, loadCells, loadCellsFrom, storeCells]
theorem append_all (W : World) (t ty e : TypeId) (z : Value) (sz bytes : Nat) (ht : P.underlying t = some (.slice e)) (hinf : (P.info? e).map (fun i => (i.zero, i.size, i.bytes)) = some (some z, sz, bytes)) (hzs : z.cells.size = sz) (hsz : 0 < sz) (b : Nat) (hb : W.heap[b]? = some (.cells #[] e (0, 0)))
    (v : Value) (n : Nat) (cs : List Value) (h : RowAt W v n sz cs) (h1 : ∀ u ∈ cs, u.oneCell' = true) (hn : n ≤ maxLen) (hby : n * bytes ≤ 140737488355328) :
    ∃ g cp W', (Builtin.append_ #[t, t] ty #[.slice (some ⟨b, 0, none⟩) 0 0, v]).run P W = .ok (.slice (some ⟨g, 0, none⟩) n cp) W' ∧ W'.ownsRow b e sz (.slice (some ⟨g, 0, none⟩) n cp) n cs ∧ W.grownBy W' (some b) ∧ (g = b ∨ g = W.heap.size) := by
  obtain ⟨i, hi, hz, hs, hy⟩ := info_parts hinf
  have h0 : W.ownsRow b e sz (.slice (some ⟨b, 0, none⟩) 0 0) 0 [] := ⟨by simp, .inr ⟨b, 0, #[], rfl, Nat.le_refl _, hb, Nat.le_refl _, by simp, by simp, by simp⟩⟩
  obtain ⟨hl, ⟨rfl, a, cap, rfl⟩ | ⟨b', off, cap, rfl, hcp, hc⟩⟩ := h
  · have hcs : cs = [] := List.length_eq_zero_iff.1 (by simpa using hl)
    subst hcs
    exact ⟨b, 0, W, append_none W t ty e i ht hi b a cap, h0, ⟨rfl, rfl, rfl, Nat.le_refl _, fun _ _ _ => rfl⟩, .inl rfl⟩
  · obtain ⟨v', W', hr, ho, hg, _, hat⟩ := run_append_own_at W b t ty e i z sz bytes ht hi hz hs hy hzs hsz (.slice (some ⟨b, 0, none⟩) 0 0) 0 [] h0 ⟨b', off, none⟩ n cap cs hl (fun j u hj => by
      have hj' : j < n * sz := by
        rw [← hl]
        exact (List.getElem?_eq_some_iff.1 hj).1
      rw [show (⟨b', off, none⟩ : Addr).add j = ⟨b', off + j, none⟩ by simp [Addr.add], hc j hj', hj]) h1 (by omega) (by simpa using hby) (by have := (Array.getElem?_eq_some_iff.1 hb).1; omega)
    rw [Nat.zero_add, List.nil_append] at ho
    rcases ho.2 with ⟨e0, _⟩ | ⟨g, cp, cur, e0, _⟩
    · rw [e0] at hat
      rcases hat with hat | hat <;> cases hat
    · subst e0
      refine ⟨g, cp, W', hr, ho, hg, ?_⟩
      rcases hat with hat | hat
      · injection hat with hat; exact .inl hat
      · injection hat with hat; exact .inr hat
theorem wpList_append_run {w : World} {ops : Array Oper} {rest : List Oper} {o : Oper} {a : Act} {Q : Exit → Act → World → Prop} (hgd : o.guard = none) (s x : Operand) (t : TypeId)
    (ho : o.op = .call { callee := .builtin .append, args := #[s, x], argTypes := #[t, t] }) (v u r : Value) (w' : World) (hs : a.eval s = v) (hx : a.eval x = u) (hr : (Builtin.append_ #[t, t] o.type #[v, u]).run P w = .ok r w') (h : wpList P ops Q rest (a.put o.dst r) w') : wpList P ops Q (o :: rest) a w :=
  wpList_plain hgd fun K hK => by
    unfold Oper.wp execOp
    simp only [ho, resolve, invoke, builtin, Sem.run_bind, Sem.run_pure, Result.andThen_ok, List.map_toArray, List.map_cons, List.map_nil, hs, hx, hr]
    exact hK _ _ h
end
end Go.Proofs.YtadcidbeealdpaaGreatDoor

/- 'append' of a whole list to an empty one. -/
namespace Go.Proofs.YtadcidbeealdpaaGreatDoor
open Go.RowKit

/-- blocks may be new; of the old ones only p has changed -/
structure But (p : Nat) (w w' : World) : Prop where
  size : w.heap.size ≤ w'.heap.size
  block : ∀ k, k < w.heap.size → k ≠ p → w'.heap[k]? = w.heap[k]?
  still : Still w w'
theorem But.refl (p : Nat) (w : World) : But p w w := ⟨Nat.le_refl _, fun _ _ _ => rfl, Still.refl w⟩
theorem But.trans {p : Nat} {a b c : World} (h : But p a b) (h' : But p b c) : But p a c := ⟨Nat.le_trans h.size h'.size, fun k hk hp => (h'.block k (Nat.lt_of_lt_of_le hk h.size) hp).trans (h.block k hk hp), h.still.trans h'.still⟩
theorem But.below {p B : Nat} {a b : World} (h : But p a b) (hB : B ≤ p) (hs : B ≤ a.heap.size) : Below B a b := ⟨h.still.1, h.still.2.1, h.still.2.2, h.size, fun k hk => h.block k (by omega) (by omega)⟩
end Go.Proofs.YtadcidbeealdpaaGreatDoor
