import Derived.Test.YtgjjjdccbpjnfaaGreatDoorS13
import Derived.Test.YtgjjjdccbpjnfaaGreatDoorS14
import Derived.Test.YtgjjjdccbpjnfaaGreatDoorS05
import Derived.Laws.CopyRow
import Derived.Laws.MakeOwn
import Derived.Test.YtgjjjdccbpjnfaaGreatDoorS08
import Derived.Deep.QuietTactic
import Derived.BigQuiet

/- The two texts that the law opens first: a record that is cut, and the record of one mail. -/
namespace Go.Proofs.YtgjjjdccbpjnfaaGreatDoor

def cutText : List UInt8 := [0, 0, 0, 21, 116, 192, 93, 43]
theorem cut_text : cutS cutText = none := by
  rw [cut_doc, if_pos (.inl (by decide))]
theorem read_cut : readS cutText = (⟨[], 0⟩, 0) := readF_no cut_text

def oneMail : PMail := ⟨1, 3, [120, 64, 121], [[97, 64, 98]], [104, 105]⟩
def oneText : List UInt8 := frameE (mailE oneMail)
theorem one_len : oneText.length = 30 := by kernel_rfl
theorem read_one : readS oneText = (⟨[⟨oneMail, [false]⟩], 3⟩, 30) := by kernel_rfl
theorem one_take : oneText.take (readS oneText).2 = oneText := by
  rw [read_one]
  exact List.take_of_length_le (Nat.le_of_eq one_len)
theorem one_queue : queueL (readS oneText).1.items = [oneMail] := by
  rw [read_one]
  kernel_rfl
theorem one_size : MailSz oneMail := ⟨by decide, by decide, by decide, by decide, by decide, by decide⟩
end Go.Proofs.YtgjjjdccbpjnfaaGreatDoor

/- What is lent: rows that the law makes, and what copy does to them. -/
namespace Go.Proofs.YtgjjjdccbpjnfaaGreatDoor
open Go.RowKit

/-- copy into a row of one's own, elements of whatever size -/
theorem run_copy_any {P : Program} (w : World) (dT sT ty elem : TypeId) (sz g dLen dCap : Nat) (a : Addr) (sLen sCap : Nat) (cur : Array Value) (t : TypeId) (cs : List Value)
    (hu : P.underlying dT = some (.slice elem)) (hs : (P.info? elem).map (·.size) = some sz)
    (hg : w.heap[g]? = some (.cells cur t (0, 0))) (hle : sLen ≤ dLen) (hn : cs.length = sLen * sz)
    (hsrc : ∀ j v, cs[j]? = some v → w.cell? (a.add j) = some v) (hfit : cs.length ≤ cur.size) (h1 : ∀ v ∈ cs, v.oneCell' = true) :
    (Builtin.copy_ #[dT, sT] ty #[.slice (some ⟨g, 0, none⟩) dLen dCap, .slice (some a) sLen sCap]).run P w =
      .ok (goInt sLen) (w.setRow g (cs ++ cur.toList.drop cs.length).toArray) := by
  have hl := run_loadCells_list (P := P) w a cs hsrc
  have hst := run_storeCells_at P g 0 t cs 0 cur w hg (by simpa using hfit) h1
  have hmin : Nat.min sLen dLen = sLen := Nat.min_eq_left hle
  cases hq : P.info? elem with
  | none => simp [hq] at hs
  | some i =>
    have hi : i.size = sz := by simpa [hq] using hs
    rw [hn] at hl
    simp [Builtin.copy_, run_underlying hu, Builtin.lenOf, Builtin.firstCells, sizeOf, typeInfo, hq, hi, hmin, hl, hst]

/-- .. of no element -/
theorem run_copy_zero {P : Program} (w : World) (dT sT ty elem : TypeId) (sz g dLen dCap : Nat) (a : Option Addr) (sCap : Nat)
    (hu : P.underlying dT = some (.slice elem)) (hs : (P.info? elem).map (·.size) = some sz) :
    (Builtin.copy_ #[dT, sT] ty #[.slice (some ⟨g, 0, none⟩) dLen dCap, .slice a 0 sCap]).run P w = .ok (goInt 0) w := by
  cases hq : P.info? elem with
  | none => simp [hq] at hs
  | some i =>
    have hi : i.size = sz := by simpa [hq] using hs
    cases a with
    | none => simp [Builtin.copy_, run_underlying hu, Builtin.lenOf, Builtin.firstCells, sizeOf, typeInfo, hq, storeCells]
    | some a =>
      have hl := run_loadCells_list (P := P) w a [] (fun j v hj => by simp at hj)
      simp only [List.length_nil] at hl
      simp [Builtin.copy_, run_underlying hu, Builtin.lenOf, Builtin.firstCells, sizeOf, typeInfo, hq, hl, storeCells]

/-- a row of n and eight more elements, as make lays it -/
theorem make_row {P : Program} (t e : TypeId) (i : TypeInfo) (z : Value) (sz bytes n : Nat) (ht : P.underlying t = some (.slice e)) (hi : P.info? e = some i) (hz : i.zero = some z) (hsz : i.size = sz) (hby : i.bytes = bytes) (hb : bytes * (n + 8) ≤ 281474976710656) (hn : n ≤ 140737488351232) :
    ∃ C : Array Value, C.size = (n + 8) * sz ∧ ∀ w : World, (Instr.makeSlice t (.int .i64 ((n : Int) + 8)) (.int .i64 ((n : Int) + 8))).run P w = .ok (.slice (some ⟨w.heap.size, 0, none⟩) (n + 8) (n + 8)) (w.alloc (.cells C e)) := by
  refine ⟨madeCells z.cells ((n + 8) * i.size), ?_, fun w => ?_⟩
  · rw [← hsz]; simp [madeCells]
  · have := run_make (P := P) w t e i z ht hi hz .i64 .i64 ((n : Int) + 8) ((n : Int) + 8) (by omega) (Int.le_refl _) (by
      have h9 : ((bytes : Int) * ((n : Int) + 8)) = ((bytes * (n + 8) : Nat) : Int) := by rw [Int.natCast_mul, Int.natCast_add]; rfl
      rw [hby, h9]
      generalize bytes * (n + 8) = q at hb
      omega) (by omega)
    rw [show ((n : Int) + 8).toNat = n + 8 by omega] at this
    exact this

/-- a row is made and filled -/
theorem stage {P : Program} {T E : TypeId} {z : Value} {sz bytes : Nat} (hT : P.underlying T = some (.slice E)) (hinf : (P.info? E).map (fun i => (i.zero, i.size, i.bytes)) = some (some z, sz, bytes)) (n : Nat) (hb : bytes * (n + 8) ≤ 281474976710656) (hn : n ≤ 140737488351232) :
    ∃ C : Array Value, (∀ w : World, (Instr.makeSlice T (.int .i64 ((n : Int) + 8)) (.int .i64 ((n : Int) + 8))).run P w = .ok (.slice (some ⟨w.heap.size, 0, none⟩) (n + 8) (n + 8)) (w.alloc (.cells C E))) ∧
      ∀ (W : World) (v : Value) (cs : List Value), RowAt W v n sz cs → (∀ u ∈ cs, u.oneCell' = true) → ∃ (W2 : World) (D : Array Value), (∀ ty, (Builtin.copy_ #[T, T] ty #[.slice (some ⟨W.heap.size, 0, none⟩) (n + 8) (n + 8), v]).run P (W.alloc (.cells C E)) = .ok (goInt n) W2) ∧ Below W.heap.size W W2 ∧ W2.heap.size = W.heap.size + 1 ∧ W2.heap[W.heap.size]? = some (.cells D E (0, 0)) ∧ D.size = (n + 8) * sz ∧ ∀ j : Nat, j < n * sz → D[j]? = cs[j]? := by
  obtain ⟨i, hi, hz, hs, hby⟩ := info_parts hinf
  obtain ⟨C, hC, hmk⟩ := make_row T E i z sz bytes n hT hi hz hs hby hb hn
  have hsz : (P.info? E).map (·.size) = some sz := by rw [hi]; simp [hs]
  refine ⟨C, hmk, fun W v cs h h1 => ?_⟩
  have hal : (W.alloc (.cells C E)).heap[W.heap.size]? = some (.cells C E (0, 0)) := by
    show (W.heap.push (.cells C E))[W.heap.size]? = _
    simp
  obtain ⟨hl, ⟨rfl, a, cap, rfl⟩ | ⟨b, off, cap, rfl, hcp, hc⟩⟩ := h
  · refine ⟨W.alloc (.cells C E), C, fun ty => run_copy_zero _ T T ty E sz _ _ _ a cap hT hsz, (Below.refl _ _).alloc (Nat.le_refl _) _, by simp, hal, hC, fun j hj => by omega⟩
  · have hfit : cs.length ≤ C.size := by rw [hl, hC]; exact Nat.mul_le_mul_right _ (by omega)
    have hrun := fun ty => run_copy_any (W.alloc (.cells C E)) T T ty E sz W.heap.size (n + 8) (n + 8) ⟨b, off, none⟩ n cap C E cs hT hsz hal (by omega) hl (fun j u hj => by
      have hj' : j < n * sz := by
        have := (List.getElem?_eq_some_iff.1 hj).1
        omega
      have h2 := hc j hj'
      rw [hj] at h2
      have hlt := block_lt h2
      have e : Addr.add ⟨b, off, none⟩ j = ⟨b, off + j, none⟩ := by unfold Addr.add; simp
      rw [e, ((Below.refl W.heap.size W).alloc (Nat.le_refl _) _).cell (p := ⟨b, off + j, none⟩) hlt, h2]) hfit h1
    refine ⟨_, _, hrun, ?_, ?_, setRow_heap _ _ C _ E _ hal, ?_, ?_⟩
    · exact ⟨rfl, rfl, rfl, by simp, fun k hk => (setRow_other _ _ k _ (by omega)).trans (Below.heap_alloc _ _ _ hk)⟩
    · simp
    · simp; omega
    · intro j hj
      have : j < cs.length := by omega
      simp [List.getElem?_append, this]
end Go.Proofs.YtgjjjdccbpjnfaaGreatDoor

/- What is lent: the walk. -/
namespace Go.Proofs.YtgjjjdccbpjnfaaGreatDoor
open Go.RowKit

def CfgRm (c : Cfg) : Prop := 16 * c.doms.length ≤ 140737488351232 ∧ 16 * c.nets.length ≤ 140737488351232 ∧ 32 * c.users.length ≤ 140737488351232 ∧ 8 * c.waits.length ≤ 140737488351232

def Rows4 (w : World) (B : Nat) (D N U V : Array Value) : Prop :=
  w.heap[B + 3]? = some (.cells D 9 (0, 0)) ∧ w.heap[B + 4]? = some (.cells N 82 (0, 0)) ∧ w.heap[B + 5]? = some (.cells U 56 (0, 0)) ∧ w.heap[B + 6]? = some (.cells V 3 (0, 0))

theorem info_str : (Tryz.prog.info? 9).map (fun i => (i.zero, i.size, i.bytes)) = some (some (.string ⟨#[]⟩), 1, 16) := by kernel_rfl
theorem info_net : (Tryz.prog.info? 82).map (fun i => (i.zero, i.size, i.bytes)) = some (some (.agg #[.int .i64 0, .int .i64 0]), 2, 16) := by kernel_rfl
theorem info_user : (Tryz.prog.info? 56).map (fun i => (i.zero, i.size, i.bytes)) = some (some (.agg #[.string ⟨#[]⟩, .string ⟨#[]⟩]), 2, 32) := by kernel_rfl
theorem info_int : (Tryz.prog.info? 3).map (fun i => (i.zero, i.size, i.bytes)) = some (some (.int .i64 0), 1, 8) := by kernel_rfl

theorem one_strs (l : List ByteArray) : ∀ u ∈ strCellsOf l, u.oneCell' = true := by
  intro u hu; obtain ⟨x, _, rfl⟩ := List.mem_map.1 hu; rfl
theorem one_ints (l : List Int) : ∀ u ∈ intCells l, u.oneCell' = true := by
  intro u hu; obtain ⟨x, _, rfl⟩ := List.mem_map.1 hu; rfl
theorem one_nets (l : List (Int × Int)) : ∀ u ∈ netCells l, u.oneCell' = true := by
  intro u hu
  obtain ⟨x, _, h⟩ := List.mem_flatMap.1 hu
  rcases List.mem_cons.1 h with rfl | h
  · rfl
  · rcases List.mem_cons.1 h with rfl | h
    · rfl
    · cases h
theorem one_users (l : List (ByteArray × ByteArray)) : ∀ u ∈ userCells l, u.oneCell' = true := by
  intro u hu
  obtain ⟨x, _, h⟩ := List.mem_flatMap.1 hu
  rcases List.mem_cons.1 h with rfl | h
  · rfl
  · rcases List.mem_cons.1 h with rfl | h
    · rfl
    · cases h

/-- a row whose first n elements are cs, and k of the eight behind them the pattern -/
def Fill (n sz k : Nat) (cs pat : List Value) (A : Array Value) : Prop :=
  A.size = (n + 8) * sz ∧ (∀ j : Nat, j < n * sz → A[j]? = cs[j]?) ∧ ∀ j i : Nat, j < k → i < sz → A[(n + j) * sz + i]? = pat[i]?
theorem fill_one {n k : Nat} {cs : List Value} {p : Value} {A : Array Value} (h : Fill n 1 k cs [p] A) (hk : k < 8) : Fill n 1 (k + 1) cs [p] (A.setIfInBounds (n + k) p) := by
  obtain ⟨h1, h2, h3⟩ := h
  refine ⟨by simpa using h1, fun j hj => ?_, fun j i hj hi => ?_⟩
  · rw [Array.getElem?_setIfInBounds_ne (by omega)]; exact h2 j hj
  · have hi0 : i = 0 := by omega
    subst hi0
    by_cases e : j = k
    · subst e
      rw [show (n + j) * 1 + 0 = n + j by omega, Array.getElem?_setIfInBounds_self_of_lt (by omega)]; rfl
    · rw [Array.getElem?_setIfInBounds_ne (by omega)]; exact h3 j 0 (by omega) (by omega)
theorem fill_two {n k : Nat} {cs : List Value} {p q : Value} {A : Array Value} (h : Fill n 2 k cs [p, q] A) (hk : k < 8) : Fill n 2 (k + 1) cs [p, q] ((A.setIfInBounds ((n + k) * 2) p).setIfInBounds ((n + k) * 2 + 1) q) := by
  obtain ⟨h1, h2, h3⟩ := h
  refine ⟨by simpa using h1, fun j hj => ?_, fun j i hj hi => ?_⟩
  · rw [Array.getElem?_setIfInBounds_ne (by omega), Array.getElem?_setIfInBounds_ne (by omega)]; exact h2 j hj
  · have hi2 : i = 0 ∨ i = 1 := by omega
    by_cases e : j = k
    · subst e
      rcases hi2 with rfl | rfl
      · rw [Array.getElem?_setIfInBounds_ne (by omega), Nat.add_zero, Array.getElem?_setIfInBounds_self_of_lt (by omega)]; rfl
      · rw [Array.getElem?_setIfInBounds_self_of_lt (by simp; omega)]; rfl
    · rw [Array.getElem?_setIfInBounds_ne (by omega), Array.getElem?_setIfInBounds_ne (by omega)]; exact h3 j i (by omega) hi

theorem Rows4.setD {w : World} {B : Nat} {D N U V : Array Value} (h : Rows4 w B D N U V) (i : Nat) (v : Value) : Rows4 (w.setCell ⟨B + 3, i, none⟩ v) B (D.setIfInBounds i v) N U V :=
  ⟨heap_setCell_same w (B + 3) i D _ v h.1, (heap_setCell_other w ⟨B + 3, i, none⟩ (B + 4) v (by show B + 4 ≠ B + 3; omega)).trans h.2.1, (heap_setCell_other w ⟨B + 3, i, none⟩ (B + 5) v (by show B + 5 ≠ B + 3; omega)).trans h.2.2.1, (heap_setCell_other w ⟨B + 3, i, none⟩ (B + 6) v (by show B + 6 ≠ B + 3; omega)).trans h.2.2.2⟩
theorem Rows4.setN {w : World} {B : Nat} {D N U V : Array Value} (h : Rows4 w B D N U V) (i : Nat) (v : Value) : Rows4 (w.setCell ⟨B + 4, i, none⟩ v) B D (N.setIfInBounds i v) U V :=
  ⟨(heap_setCell_other w ⟨B + 4, i, none⟩ (B + 3) v (by show B + 3 ≠ B + 4; omega)).trans h.1, heap_setCell_same w (B + 4) i N _ v h.2.1, (heap_setCell_other w ⟨B + 4, i, none⟩ (B + 5) v (by show B + 5 ≠ B + 4; omega)).trans h.2.2.1, (heap_setCell_other w ⟨B + 4, i, none⟩ (B + 6) v (by show B + 6 ≠ B + 4; omega)).trans h.2.2.2⟩
theorem Rows4.setU {w : World} {B : Nat} {D N U V : Array Value} (h : Rows4 w B D N U V) (i : Nat) (v : Value) : Rows4 (w.setCell ⟨B + 5, i, none⟩ v) B D N (U.setIfInBounds i v) V :=
  ⟨(heap_setCell_other w ⟨B + 5, i, none⟩ (B + 3) v (by show B + 3 ≠ B + 5; omega)).trans h.1, (heap_setCell_other w ⟨B + 5, i, none⟩ (B + 4) v (by show B + 4 ≠ B + 5; omega)).trans h.2.1, heap_setCell_same w (B + 5) i U _ v h.2.2.1, (heap_setCell_other w ⟨B + 5, i, none⟩ (B + 6) v (by show B + 6 ≠ B + 5; omega)).trans h.2.2.2⟩
theorem Rows4.setV {w : World} {B : Nat} {D N U V : Array Value} (h : Rows4 w B D N U V) (i : Nat) (v : Value) : Rows4 (w.setCell ⟨B + 6, i, none⟩ v) B D N U (V.setIfInBounds i v) :=
  ⟨(heap_setCell_other w ⟨B + 6, i, none⟩ (B + 3) v (by show B + 3 ≠ B + 6; omega)).trans h.1, (heap_setCell_other w ⟨B + 6, i, none⟩ (B + 4) v (by show B + 4 ≠ B + 6; omega)).trans h.2.1, (heap_setCell_other w ⟨B + 6, i, none⟩ (B + 5) v (by show B + 5 ≠ B + 6; omega)).trans h.2.2.1, heap_setCell_same w (B + 6) i V _ v h.2.2.2⟩
/-- a cell of such a row is there, and may be written -/
theorem row_cell {w : World} {b j : Nat} {A : Array Value} {t : TypeId} (h : w.heap[b]? = some (.cells A t (0, 0))) (hj : j < A.size) : (∃ v, w.cell? ⟨b, j, none⟩ = some v) ∧ w.frozen? ⟨b, j, none⟩ = false :=
  ⟨⟨A[j], by rw [Lib.cell_of_heap h, Array.getElem?_eq_getElem hj]⟩, Lib.frozen_of_heap h j⟩

theorem three_allocs (w : World) (a b c : Obj) : (((w.alloc a).alloc b).alloc c).heap[w.heap.size + 1]? = some b ∧ (((w.alloc a).alloc b).alloc c).heap[w.heap.size + 1 + 1]? = some c := by
  constructor
  · show (((w.heap.push a).push b).push c)[w.heap.size + 1]? = some b
    rw [Array.getElem?_push, if_neg (by simp), Array.getElem?_push, if_pos (by simp)]
  · show (((w.heap.push a).push b).push c)[w.heap.size + 1 + 1]? = some c
    rw [Array.getElem?_push, if_pos (by simp)]
theorem Rows4.low {w : World} {B : Nat} {D N U V : Array Value} (h : Rows4 w B D N U V) {p : Addr} (hp : p.block < B + 3) (v : Value) : Rows4 (w.setCell p v) B D N U V :=
  ⟨(heap_setCell_other w p (B + 3) v (by omega)).trans h.1, (heap_setCell_other w p (B + 4) v (by omega)).trans h.2.1, (heap_setCell_other w p (B + 5) v (by omega)).trans h.2.2.1, (heap_setCell_other w p (B + 6) v (by omega)).trans h.2.2.2⟩

def beyond : Value := .string ⟨#[98, 101, 121, 111, 110, 100]⟩
/-- four rows from block B + 3 on, as lent leaves them -/
def LentRows (c : Cfg) (B : Nat) (w : World) : Prop :=
  ∃ D N U V : Array Value, Rows4 w B D N U V ∧ Fill c.doms.length 1 8 (strCellsOf c.doms) [beyond] D ∧ Fill c.nets.length 2 8 (netCells c.nets) [.int .i64 0, .int .i64 (-77)] N ∧ Fill c.users.length 2 8 (userCells c.users) [beyond, .string ⟨#[]⟩] U ∧ Fill c.waits.length 1 8 (intCells c.waits) [.int .i64 (-77)] V
def lentVal (c : Cfg) (B : Nat) : Value :=
  .agg #[.string c.host, .slice (some ⟨B + 1 + 1 + 1, 0, none⟩) c.doms.length (c.doms.length + 8), .slice (some ⟨B + 1 + 1 + 1 + 1, 0, none⟩) c.nets.length (c.nets.length + 8), .slice (some ⟨B + 1 + 1 + 1 + 1 + 1, 0, none⟩) c.users.length (c.users.length + 8), .int .i64 c.most, .int .i64 c.size, .slice (some ⟨B + 1 + 1 + 1 + 1 + 1 + 1, 0, none⟩) c.waits.length (c.waits.length + 8), .int .i64 c.life, .int .i64 c.room]
set_option maxHeartbeats 4000000 in
set_option maxRecDepth 100000 in
theorem lent_any (c : Cfg) (vD vN vU vW : Value) (w : World) (h : CfgAt w c vD vN vU vW) (hr : CfgRm c) :
    Calls Tryz.prog 41 #[.agg #[.string c.host, vD, vN, vU, .int .i64 c.most, .int .i64 c.size, vW, .int .i64 c.life, .int .i64 c.room]] w fun e w' => e = .returned (lentVal c w.heap.size) ∧ LentRows c w.heap.size w' ∧ Below w.heap.size w w' := by
  obtain ⟨host, doms, nets, users, most, size, waits, life, room⟩ := c
  obtain ⟨r1, r2, r3, r4⟩ := hr
  simp only at r1 r2 r3 r4
  obtain ⟨aD, cD, eD⟩ := slice_of h.1
  obtain ⟨aN, cN, eN⟩ := slice_of h.2.1
  obtain ⟨aU, cU, eU⟩ := slice_of h.2.2.1
  obtain ⟨aW, cW, eW⟩ := slice_of h.2.2.2
  simp only at eD eN eU eW
  subst eD eN eU eW
  obtain ⟨CD, mkD, stD⟩ := stage (P := Tryz.prog) Tryz.underlying24 info_str doms.length (by omega) (by omega)
  obtain ⟨CN, mkN, stN⟩ := stage (P := Tryz.prog) Tryz.underlying32 info_net nets.length (by omega) (by omega)
  obtain ⟨CU, mkU, stU⟩ := stage (P := Tryz.prog) Tryz.underlying33 info_user users.length (by omega) (by omega)
  obtain ⟨CW, mkW, stW⟩ := stage (P := Tryz.prog) Tryz.underlying34 info_int waits.length (by omega) (by omega)
  have bD : (doms.length : Int) ≤ 17592186044416 := by omega
  have bN : (nets.length : Int) ≤ 17592186044416 := by omega
  have bU : (users.length : Int) ≤ 17592186044416 := by omega
  have bW : (waits.length : Int) ≤ 17592186044416 := by omega
  have HA := Lib.hid h
  have SD := Lib.hid stD
  have SN := Lib.hid stN
  have SU := Lib.hid stU
  have SW := Lib.hid stW
  clear h stD stN stU stW
  have hW0 : ∃ W0 : World, W0 = (((w.alloc (.cells #[.string host, .slice aD doms.length cD, .slice aN nets.length cN, .slice aU users.length cU, .int .i64 most, .int .i64 size, .slice aW waits.length cW, .int .i64 life, .int .i64 room] 36)).alloc (.cells #[.string ⟨#[]⟩, .slice none 0 0, .slice none 0 0, .slice none 0 0, .int .i64 0, .int .i64 0, .slice none 0 0, .int .i64 0, .int .i64 0] 36)).alloc (.cells #[.string host, .slice aD doms.length cD, .slice aN nets.length cN, .slice aU users.length cU, .int .i64 most, .int .i64 size, .slice aW waits.length cW, .int .i64 life, .int .i64 room] 36)) := ⟨_, rfl⟩
  have hb0 : Below w.heap.size w (((w.alloc (.cells #[.string host, .slice aD doms.length cD, .slice aN nets.length cN, .slice aU users.length cU, .int .i64 most, .int .i64 size, .slice aW waits.length cW, .int .i64 life, .int .i64 room] 36)).alloc (.cells #[.string ⟨#[]⟩, .slice none 0 0, .slice none 0 0, .slice none 0 0, .int .i64 0, .int .i64 0, .slice none 0 0, .int .i64 0, .int .i64 0] 36)).alloc (.cells #[.string host, .slice aD doms.length cD, .slice aN nets.length cN, .slice aU users.length cU, .int .i64 most, .int .i64 size, .slice aW waits.length cW, .int .i64 life, .int .i64 room] 36)) := (((Below.refl _ _).alloc (Nat.le_refl _) _).alloc (by simp) _).alloc (by simp; omega) _
  have hs0 : ((((w.alloc (.cells #[.string host, .slice aD doms.length cD, .slice aN nets.length cN, .slice aU users.length cU, .int .i64 most, .int .i64 size, .slice aW waits.length cW, .int .i64 life, .int .i64 room] 36)).alloc (.cells #[.string ⟨#[]⟩, .slice none 0 0, .slice none 0 0, .slice none 0 0, .int .i64 0, .int .i64 0, .slice none 0 0, .int .i64 0, .int .i64 0] 36)).alloc (.cells #[.string host, .slice aD doms.length cD, .slice aN nets.length cN, .slice aU users.length cU, .int .i64 most, .int .i64 size, .slice aW waits.length cW, .int .i64 life, .int .i64 room] 36))).heap.size = w.heap.size + 1 + 1 + 1 := by simp
  obtain ⟨W1, D, cpD, hb1, sz1, hp1, szD, ctD⟩ := SD.out (((w.alloc (.cells #[.string host, .slice aD doms.length cD, .slice aN nets.length cN, .slice aU users.length cU, .int .i64 most, .int .i64 size, .slice aW waits.length cW, .int .i64 life, .int .i64 room] 36)).alloc (.cells #[.string ⟨#[]⟩, .slice none 0 0, .slice none 0 0, .slice none 0 0, .int .i64 0, .int .i64 0, .slice none 0 0, .int .i64 0, .int .i64 0] 36)).alloc (.cells #[.string host, .slice aD doms.length cD, .slice aN nets.length cN, .slice aU users.length cU, .int .i64 most, .int .i64 size, .slice aW waits.length cW, .int .i64 life, .int .i64 room] 36)) _ _ (HA.out.1.below hb0) (one_strs doms)
  rw [hs0] at cpD sz1 hp1
  have hB1 : Below w.heap.size w W1 := hb0.trans (hb1.mono (by rw [hs0]; omega))
  obtain ⟨W2, N, cpN, hb2, sz2, hp2, szN, ctN⟩ := SN.out W1 _ _ (HA.out.2.1.below hB1) (one_nets nets)
  have hB2 : Below w.heap.size w W2 := hB1.trans (hb2.mono (by omega))
  obtain ⟨W3, U, cpU, hb3, sz3, hp3, szU, ctU⟩ := SU.out W2 _ _ (HA.out.2.2.1.below hB2) (one_users users)
  have hB3 : Below w.heap.size w W3 := hB2.trans (hb3.mono (by omega))
  obtain ⟨W4, V, cpV, hb4, sz4, hp4, szV, ctV⟩ := SW.out W3 _ _ (HA.out.2.2.2.below hB3) (one_ints waits)
  have hB4 : Below w.heap.size w W4 := hB3.trans (hb4.mono (by omega))
  rw [sz1] at sz2 hp2 cpN
  rw [sz2] at sz3 hp3 cpU
  rw [sz3] at sz4 hp4 cpV
  have hr4 : Hid (Rows4 W4 w.heap.size D N U V) := by
    refine ⟨?_, ?_, ?_, ?_⟩
    · rw [hb4.block _ (by rw [sz3]; omega), hb3.block _ (by rw [sz2]; omega), hb2.block _ (by rw [sz1]; omega)]; exact hp1
    · rw [hb4.block _ (by rw [sz3]; omega), hb3.block _ (by rw [sz2]; omega)]; exact hp2
    · rw [hb4.block _ (by rw [sz3]; omega)]; exact hp3
    · exact hp4
  have box : ∀ (W : World), Below (w.heap.size + 3) (((w.alloc (.cells #[.string host, .slice aD doms.length cD, .slice aN nets.length cN, .slice aU users.length cU, .int .i64 most, .int .i64 size, .slice aW waits.length cW, .int .i64 life, .int .i64 room] 36)).alloc (.cells #[.string ⟨#[]⟩, .slice none 0 0, .slice none 0 0, .slice none 0 0, .int .i64 0, .int .i64 0, .slice none 0 0, .int .i64 0, .int .i64 0] 36)).alloc (.cells #[.string host, .slice aD doms.length cD, .slice aN nets.length cN, .slice aU users.length cU, .int .i64 most, .int .i64 size, .slice aW waits.length cW, .int .i64 life, .int .i64 room] 36)) W → ∀ j : Nat, W.cell? ⟨w.heap.size, j, none⟩ = (#[.string host, .slice aD doms.length cD, .slice aN nets.length cN, .slice aU users.length cU, .int .i64 most, .int .i64 size, .slice aW waits.length cW, .int .i64 life, .int .i64 room] : Array Value)[j]? := fun W hW j => by
    rw [hW.cell (p := ⟨w.heap.size, j, none⟩) (by show w.heap.size < w.heap.size + 3; omega)]
    rw [((Below.refl (w.heap.size + 2) _).alloc (by simp) _).cell (p := ⟨w.heap.size, j, none⟩) (by show w.heap.size < w.heap.size + 2; omega)]
    rw [((Below.refl (w.heap.size + 1) _).alloc (by simp) _).cell (p := ⟨w.heap.size, j, none⟩) (by show w.heap.size < w.heap.size + 1; omega)]
    exact World.cell?_alloc_mark w _ 36 (0, 0) j
  have HXX : Hid (∀ (W : World), Below (w.heap.size + 3) (((w.alloc (.cells #[.string host, .slice aD doms.length cD, .slice aN nets.length cN, .slice aU users.length cU, .int .i64 most, .int .i64 size, .slice aW waits.length cW, .int .i64 life, .int .i64 room] 36)).alloc (.cells #[.string ⟨#[]⟩, .slice none 0 0, .slice none 0 0, .slice none 0 0, .int .i64 0, .int .i64 0, .slice none 0 0, .int .i64 0, .int .i64 0] 36)).alloc (.cells #[.string host, .slice aD doms.length cD, .slice aN nets.length cN, .slice aU users.length cU, .int .i64 most, .int .i64 size, .slice aW waits.length cW, .int .i64 life, .int .i64 room] 36)) W → ∀ j : Nat, W.cell? ⟨w.heap.size + 1 + 1, j, none⟩ = (#[.string host, .slice aD doms.length cD, .slice aN nets.length cN, .slice aU users.length cU, .int .i64 most, .int .i64 size, .slice aW waits.length cW, .int .i64 life, .int .i64 room] : Array Value)[j]?) := fun W hW j => by
    rw [hW.cell (p := ⟨w.heap.size + 1 + 1, j, none⟩) (by show w.heap.size + 1 + 1 < w.heap.size + 3; omega)]
    have := World.cell?_alloc_mark ((w.alloc (.cells #[.string host, .slice aD doms.length cD, .slice aN nets.length cN, .slice aU users.length cU, .int .i64 most, .int .i64 size, .slice aW waits.length cW, .int .i64 life, .int .i64 room] 36)).alloc (.cells #[.string ⟨#[]⟩, .slice none 0 0, .slice none 0 0, .slice none 0 0, .int .i64 0, .int .i64 0, .slice none 0 0, .int .i64 0, .int .i64 0] 36)) #[.string host, .slice aD doms.length cD, .slice aN nets.length cN, .slice aU users.length cU, .int .i64 most, .int .i64 size, .slice aW waits.length cW, .int .i64 life, .int .i64 room] 36 (0, 0) j
    simpa using this
  have HYY : Hid (∀ (W : World), Below (w.heap.size + 3) (((w.alloc (.cells #[.string host, .slice aD doms.length cD, .slice aN nets.length cN, .slice aU users.length cU, .int .i64 most, .int .i64 size, .slice aW waits.length cW, .int .i64 life, .int .i64 room] 36)).alloc (.cells #[.string ⟨#[]⟩, .slice none 0 0, .slice none 0 0, .slice none 0 0, .int .i64 0, .int .i64 0, .slice none 0 0, .int .i64 0, .int .i64 0] 36)).alloc (.cells #[.string host, .slice aD doms.length cD, .slice aN nets.length cN, .slice aU users.length cU, .int .i64 most, .int .i64 size, .slice aW waits.length cW, .int .i64 life, .int .i64 room] 36)) W → ∀ j : Nat, W.cell? ⟨w.heap.size + 1, j, none⟩ = (#[.string ⟨#[]⟩, .slice none 0 0, .slice none 0 0, .slice none 0 0, .int .i64 0, .int .i64 0, .slice none 0 0, .int .i64 0, .int .i64 0] : Array Value)[j]?) := fun W hW j => by
    rw [hW.cell (p := ⟨w.heap.size + 1, j, none⟩) (by show w.heap.size + 1 < w.heap.size + 3; omega)]
    rw [((Below.refl (w.heap.size + 2) _).alloc (by simp) _).cell (p := ⟨w.heap.size + 1, j, none⟩) (by show w.heap.size + 1 < w.heap.size + 2; omega)]
    simp
  have HFX : Hid (∀ (W : World), Below (w.heap.size + 3) (((w.alloc (.cells #[.string host, .slice aD doms.length cD, .slice aN nets.length cN, .slice aU users.length cU, .int .i64 most, .int .i64 size, .slice aW waits.length cW, .int .i64 life, .int .i64 room] 36)).alloc (.cells #[.string ⟨#[]⟩, .slice none 0 0, .slice none 0 0, .slice none 0 0, .int .i64 0, .int .i64 0, .slice none 0 0, .int .i64 0, .int .i64 0] 36)).alloc (.cells #[.string host, .slice aD doms.length cD, .slice aN nets.length cN, .slice aU users.length cU, .int .i64 most, .int .i64 size, .slice aW waits.length cW, .int .i64 life, .int .i64 room] 36)) W → ∀ j : Nat, W.frozen? ⟨w.heap.size + 1 + 1, j, none⟩ = false) := fun W hW j => by
    refine Lib.frozen_of_heap (cs := #[.string host, .slice aD doms.length cD, .slice aN nets.length cN, .slice aU users.length cU, .int .i64 most, .int .i64 size, .slice aW waits.length cW, .int .i64 life, .int .i64 room]) (T := 36) ?_ j
    rw [hW.block _ (by omega)]
    exact (three_allocs w _ _ _).2
  have HFY : Hid (∀ (W : World), Below (w.heap.size + 3) (((w.alloc (.cells #[.string host, .slice aD doms.length cD, .slice aN nets.length cN, .slice aU users.length cU, .int .i64 most, .int .i64 size, .slice aW waits.length cW, .int .i64 life, .int .i64 room] 36)).alloc (.cells #[.string ⟨#[]⟩, .slice none 0 0, .slice none 0 0, .slice none 0 0, .int .i64 0, .int .i64 0, .slice none 0 0, .int .i64 0, .int .i64 0] 36)).alloc (.cells #[.string host, .slice aD doms.length cD, .slice aN nets.length cN, .slice aU users.length cU, .int .i64 most, .int .i64 size, .slice aW waits.length cW, .int .i64 life, .int .i64 room] 36)) W → ∀ j : Nat, W.frozen? ⟨w.heap.size + 1, j, none⟩ = false) := fun W hW j => by
    refine Lib.frozen_of_heap (cs := #[.string ⟨#[]⟩, .slice none 0 0, .slice none 0 0, .slice none 0 0, .int .i64 0, .int .i64 0, .slice none 0 0, .int .i64 0, .int .i64 0]) (T := 36) ?_ j
    rw [hW.block _ (by omega)]
    exact (three_allocs w _ _ _).1
  have e1 := hb1
  rw [hs0] at e1
  have hbb1 : Below (w.heap.size + 3) (((w.alloc (.cells #[.string host, .slice aD doms.length cD, .slice aN nets.length cN, .slice aU users.length cU, .int .i64 most, .int .i64 size, .slice aW waits.length cW, .int .i64 life, .int .i64 room] 36)).alloc (.cells #[.string ⟨#[]⟩, .slice none 0 0, .slice none 0 0, .slice none 0 0, .int .i64 0, .int .i64 0, .slice none 0 0, .int .i64 0, .int .i64 0] 36)).alloc (.cells #[.string host, .slice aD doms.length cD, .slice aN nets.length cN, .slice aU users.length cU, .int .i64 most, .int .i64 size, .slice aW waits.length cW, .int .i64 life, .int .i64 room] 36)) W1 := e1
  have hbb2 : Below (w.heap.size + 3) (((w.alloc (.cells #[.string host, .slice aD doms.length cD, .slice aN nets.length cN, .slice aU users.length cU, .int .i64 most, .int .i64 size, .slice aW waits.length cW, .int .i64 life, .int .i64 room] 36)).alloc (.cells #[.string ⟨#[]⟩, .slice none 0 0, .slice none 0 0, .slice none 0 0, .int .i64 0, .int .i64 0, .slice none 0 0, .int .i64 0, .int .i64 0] 36)).alloc (.cells #[.string host, .slice aD doms.length cD, .slice aN nets.length cN, .slice aU users.length cU, .int .i64 most, .int .i64 size, .slice aW waits.length cW, .int .i64 life, .int .i64 room] 36)) W2 := hbb1.trans (hb2.mono (by omega))
  have hbb3 : Below (w.heap.size + 3) (((w.alloc (.cells #[.string host, .slice aD doms.length cD, .slice aN nets.length cN, .slice aU users.length cU, .int .i64 most, .int .i64 size, .slice aW waits.length cW, .int .i64 life, .int .i64 room] 36)).alloc (.cells #[.string ⟨#[]⟩, .slice none 0 0, .slice none 0 0, .slice none 0 0, .int .i64 0, .int .i64 0, .slice none 0 0, .int .i64 0, .int .i64 0] 36)).alloc (.cells #[.string host, .slice aD doms.length cD, .slice aN nets.length cN, .slice aU users.length cU, .int .i64 most, .int .i64 size, .slice aW waits.length cW, .int .i64 life, .int .i64 room] 36)) W3 := hbb2.trans (hb3.mono (by omega))
  have hbb4 : Below (w.heap.size + 3) (((w.alloc (.cells #[.string host, .slice aD doms.length cD, .slice aN nets.length cN, .slice aU users.length cU, .int .i64 most, .int .i64 size, .slice aW waits.length cW, .int .i64 life, .int .i64 room] 36)).alloc (.cells #[.string ⟨#[]⟩, .slice none 0 0, .slice none 0 0, .slice none 0 0, .int .i64 0, .int .i64 0, .slice none 0 0, .int .i64 0, .int .i64 0] 36)).alloc (.cells #[.string host, .slice aD doms.length cD, .slice aN nets.length cN, .slice aU users.length cU, .int .i64 most, .int .i64 size, .slice aW waits.length cW, .int .i64 life, .int .i64 room] 36)) W4 := hbb3.trans (hb4.mono (by omega))
  have n1 : W1.cell? ⟨w.heap.size, 2, none⟩ = some (.slice aN nets.length cN) := box W1 hbb1 2
  have n2 : W2.cell? ⟨w.heap.size, 3, none⟩ = some (.slice aU users.length cU) := box W2 hbb2 3
  have n3 : W3.cell? ⟨w.heap.size, 6, none⟩ = some (.slice aW waits.length cW) := box W3 hbb3 6
  have ax1 : ∀ o : Obj, (W1.alloc o).cell? ⟨w.heap.size, 2, none⟩ = some (.slice aN nets.length cN) := fun o => by
    rw [((Below.refl W1.heap.size W1).alloc (Nat.le_refl _) o).cell (by rw [sz1]; show w.heap.size < _; omega)]; exact n1
  have ax2 : ∀ o : Obj, (W2.alloc o).cell? ⟨w.heap.size, 3, none⟩ = some (.slice aU users.length cU) := fun o => by
    rw [((Below.refl W2.heap.size W2).alloc (Nat.le_refl _) o).cell (by rw [sz2]; show w.heap.size < _; omega)]; exact n2
  have ax3 : ∀ o : Obj, (W3.alloc o).cell? ⟨w.heap.size, 6, none⟩ = some (.slice aW waits.length cW) := fun o => by
    rw [((Below.refl W3.heap.size W3).alloc (Nat.le_refl _) o).cell (by rw [sz3]; show w.heap.size < _; omega)]; exact n3
  have HBB := Lib.hid hbb4
  have HB0 := Lib.hid hb0
  have HB4 := Lib.hid hB4
  have HBX := Lib.hid box
  have HcD := Lib.hid ctD
  have HcN := Lib.hid ctN
  have HcU := Lib.hid ctU
  have HcV := Lib.hid ctV
  have HsD := Lib.hid szD
  have HsN := Lib.hid szN
  have HsU := Lib.hid szU
  have HsV := Lib.hid szV
  clear hW0 hb0 hs0 hb1 hb2 hb3 hb4 hp1 hp2 hp3 hp4 hB1 hB2 hB3 hB4 e1 hbb1 hbb2 hbb3 hbb4 box ctD ctN ctU ctV szD szN szU szV SD SN SU SW
  go_enter Tryz.func41, Tryz.ntmps41
  go_wp2_with fail
  go_loopw [8] (fun i w' => ∃ (k : Nat) (D' N' U' V' : Array Value), k ≤ 8 ∧ i = .int .i64 k ∧ Rows4 w' w.heap.size D' N' U' V' ∧ Fill doms.length 1 k (strCellsOf doms) [beyond] D' ∧ Fill nets.length 2 k (netCells nets) [.int .i64 0, .int .i64 (-77)] N' ∧ Fill users.length 2 k (userCells users) [beyond, .string ⟨#[]⟩] U' ∧ Fill waits.length 1 k (intCells waits) [.int .i64 (-77)] V' ∧ Below (w.heap.size + 3) (((w.alloc (.cells #[.string host, .slice aD doms.length cD, .slice aN nets.length cN, .slice aU users.length cU, .int .i64 most, .int .i64 size, .slice aW waits.length cW, .int .i64 life, .int .i64 room] 36)).alloc (.cells #[.string ⟨#[]⟩, .slice none 0 0, .slice none 0 0, .slice none 0 0, .int .i64 0, .int .i64 0, .slice none 0 0, .int .i64 0, .int .i64 0] 36)).alloc (.cells #[.string host, .slice aD doms.length cD, .slice aN nets.length cN, .slice aU users.length cU, .int .i64 most, .int .i64 size, .slice aW waits.length cW, .int .i64 life, .int .i64 room] 36)) w') (fun i _ => 8 - (intOf i).toNat)
  case atStart => exact ⟨0, D, N, U, V, by omega, rfl, hr4.out, ⟨HsD.out, HcD.out, fun j i hj => by omega⟩, ⟨HsN.out, HcN.out, fun j i hj => by omega⟩, ⟨HsU.out, HcU.out, fun j i hj => by omega⟩, ⟨HsV.out, HcV.out, fun j i hj => by omega⟩, HBB.out⟩
  case round =>
    obtain ⟨k, D', N', U', V', hk, rfl, hR, fD, fN, fU, fV, hb⟩ := hrel
    have bx := HBX.out _ hb
    have b1 : wr.cell? ⟨w.heap.size, 1, none⟩ = some (.slice aD doms.length cD) := bx 1
    have b2 : wr.cell? ⟨w.heap.size, 2, none⟩ = some (.slice aN nets.length cN) := bx 2
    have b3 : wr.cell? ⟨w.heap.size, 3, none⟩ = some (.slice aU users.length cU) := bx 3
    have b6 : wr.cell? ⟨w.heap.size, 6, none⟩ = some (.slice aW waits.length cW) := bx 6
    have HR := Lib.hid hR
    have HfD := Lib.hid fD
    have HfN := Lib.hid fN
    have HfU := Lib.hid fU
    have HfV := Lib.hid fV
    have HB := Lib.hid hb
    by_cases hk8 : k < 8
    · obtain ⟨⟨vD, cellD⟩, frD⟩ := row_cell (j := doms.length + k) hR.1 (by rw [fD.1]; omega)
      obtain ⟨⟨vN0, cellN0⟩, frN0⟩ := row_cell (j := (nets.length + k) * 2) hR.2.1 (by rw [fN.1]; omega)
      obtain ⟨⟨vN1, cellN1⟩, frN1⟩ := row_cell (j := (nets.length + k) * 2 + 1) hR.2.1 (by rw [fN.1]; omega)
      obtain ⟨⟨vU0, cellU0⟩, frU0⟩ := row_cell (j := (users.length + k) * 2) hR.2.2.1 (by rw [fU.1]; omega)
      obtain ⟨⟨vU1, cellU1⟩, frU1⟩ := row_cell (j := (users.length + k) * 2 + 1) hR.2.2.1 (by rw [fU.1]; omega)
      obtain ⟨⟨vV, cellV⟩, frV⟩ := row_cell (j := waits.length + k) hR.2.2.2 (by rw [fV.1]; omega)
      have hb8 : decide ((k : Int) < 8) = true := by simp; omega
      have hk8i : (k : Int) < 8 := by omega
      clear hR fD fN fU fV hb bx
      go_wp2_with fail
      refine ⟨⟨k + 1, _, _, _, _, by omega, by go_num, ((((((HR.out.setD _ _).setN _ _).setN _ _).setU _ _).setU _ _).setV _ _), fill_one HfD.out hk8, fill_two HfN.out hk8, fill_two HfU.out hk8, fill_one HfV.out hk8, ?_⟩, ?_⟩
      · refine (((((HB.out.setCell ?_ _).setCell ?_ _).setCell ?_ _).setCell ?_ _).setCell ?_ _).setCell ?_ _ <;> (dsimp only; omega)
      · simp [intOf]; omega
    · have hk9 : k = 8 := by omega
      subst hk9
      have X := HXX.out _ hb
      have Y := HYY.out _ hb
      have fX := HFX.out _ hb
      have fY := HFY.out _ hb
      have x0 := X 0
      have y0 := Y 0
      have fx0 := fX 0
      have fy0 := fY 0
      have x1 := X 1
      have y1 := Y 1
      have fx1 := fX 1
      have fy1 := fY 1
      have x2 := X 2
      have y2 := Y 2
      have fx2 := fX 2
      have fy2 := fY 2
      have x3 := X 3
      have y3 := Y 3
      have fx3 := fX 3
      have fy3 := fY 3
      have x4 := X 4
      have y4 := Y 4
      have fx4 := fX 4
      have fy4 := fY 4
      have x5 := X 5
      have y5 := Y 5
      have fx5 := fX 5
      have fy5 := fY 5
      have x6 := X 6
      have y6 := Y 6
      have fx6 := fX 6
      have fy6 := fY 6
      have x7 := X 7
      have y7 := Y 7
      have fx7 := fX 7
      have fy7 := fY 7
      have x8 := X 8
      have y8 := Y 8
      have fx8 := fX 8
      have fy8 := fY 8
      simp only [List.getElem?_toArray, List.getElem?_cons_zero, List.getElem?_cons_succ] at x0 x1 x2 x3 x4 x5 x6 x7 x8 y0 y1 y2 y3 y4 y5 y6 y7 y8
      clear X Y fX fY hR fD fN fU fV hb bx
      go_wp2_with fail
      refine bodyPost_ret (v := lentVal ⟨host, doms, nets, users, most, size, waits, life, room⟩ w.heap.size) (by simp [results, Tryz.results41, go_sem, lentVal, *]) rfl ⟨rfl, ⟨D', N', U', V', ?_, HfD.out, HfN.out, HfU.out, HfV.out⟩, ?_⟩
      · refine ((((((((((((HR.out.low ?_ _).low ?_ _).low ?_ _).low ?_ _).low ?_ _).low ?_ _).low ?_ _).low ?_ _).low ?_ _).low ?_ _).low ?_ _).low ?_ _).low ?_ _ <;> (dsimp only; omega)
      · refine (((((((((((((HB0.out.trans (HB.out.mono (by omega))).setCell ?_ _).setCell ?_ _).setCell ?_ _).setCell ?_ _).setCell ?_ _).setCell ?_ _).setCell ?_ _).setCell ?_ _).setCell ?_ _).setCell ?_ _).setCell ?_ _).setCell ?_ _).setCell ?_ _ <;> (dsimp only; omega)
end Go.Proofs.YtgjjjdccbpjnfaaGreatDoor

/- Settings that the law makes itself. -/
namespace Go.Proofs.YtgjjjdccbpjnfaaGreatDoor
open Go.RowKit

def plainCfg : Cfg := ⟨⟨#[109, 120, 46, 111, 114, 103]⟩, [⟨#[97, 46, 111, 114, 103]⟩], [], [(⟨#[117]⟩, ⟨#[119]⟩)], 2, 100, [5], 50, 100000⟩
def noCfg : Cfg := ⟨⟨#[]⟩, [], [], [], 0, 0, [], 0, 0⟩
theorem plain_may : mayB plainCfg = true := by decide
theorem no_may : mayB noCfg = false := by decide
theorem plain_size : CfgSz plainCfg := by
  refine ⟨by decide, by decide, ?_, by decide, by decide, ?_, by decide⟩
  · intro s hs
    rcases List.mem_cons.1 hs with rfl | hs
    · decide
    · cases hs
  · intro s hs
    rcases List.mem_cons.1 hs with rfl | hs
    · exact ⟨by decide, by decide⟩
    · cases hs
theorem no_size : CfgSz noCfg := ⟨by decide, by decide, (fun _ h => by cases h), by decide, by decide, (fun _ h => by cases h), by decide⟩
theorem no_at (w : World) : CfgAt w noCfg (.slice none 0 0) (.slice none 0 0) (.slice none 0 0) (.slice none 0 0) :=
  ⟨⟨rfl, .inl ⟨rfl, _, _, rfl⟩⟩, ⟨rfl, .inl ⟨rfl, _, _, rfl⟩⟩, ⟨rfl, .inl ⟨rfl, _, _, rfl⟩⟩, ⟨rfl, .inl ⟨rfl, _, _, rfl⟩⟩⟩
theorem four_allocs (w : World) (a b c d : Obj) : ((((w.alloc a).alloc b).alloc c).alloc d).heap[w.heap.size + 1]? = some b ∧ ((((w.alloc a).alloc b).alloc c).alloc d).heap[w.heap.size + 1 + 1]? = some c ∧ ((((w.alloc a).alloc b).alloc c).alloc d).heap[w.heap.size + 1 + 1 + 1]? = some d := by
  refine ⟨?_, ?_, ?_⟩
  · show ((((w.heap.push a).push b).push c).push d)[w.heap.size + 1]? = some b
    rw [Array.getElem?_push, if_neg (by simp), Array.getElem?_push, if_neg (by simp), Array.getElem?_push, if_pos (by simp)]
  · show ((((w.heap.push a).push b).push c).push d)[w.heap.size + 1 + 1]? = some c
    rw [Array.getElem?_push, if_neg (by simp), Array.getElem?_push, if_pos (by simp)]
  · show ((((w.heap.push a).push b).push c).push d)[w.heap.size + 1 + 1 + 1]? = some d
    rw [Array.getElem?_push, if_pos (by simp)]
theorem row_here {w : World} {b n sz : Nat} {l : List Value} {t : TypeId} (h : w.heap[b]? = some (.cells l.toArray t (0, 0))) (hl : l.length = n * sz) : RowAt w (.slice (some ⟨b, 0, none⟩) n n) n sz l :=
  ⟨hl, .inr ⟨b, 0, n, rfl, Nat.le_refl _, fun j _ => by rw [Lib.cell_of_heap h, Nat.zero_add, List.getElem?_toArray]⟩⟩

set_option maxHeartbeats 4000000 in
set_option maxRecDepth 100000 in
theorem plain_any (w : World) : Calls Tryz.prog 7 #[] w fun e w' => ∃ vD vN vU vW, e = .returned (plainCfg.val vD vN vU vW) ∧ CfgAt w' plainCfg vD vN vU vW ∧ Below w.heap.size w w' := by
  go_enter Tryz.func7, Tryz.ntmps7
  go_wp2_with fail
  refine bodyPost_ret (v := plainCfg.val (.slice (some ⟨w.heap.size + 1, 0, none⟩) 1 1) (.slice none 0 0) (.slice (some ⟨w.heap.size + 1 + 1, 0, none⟩) 1 1) (.slice (some ⟨w.heap.size + 1 + 1 + 1, 0, none⟩) 1 1)) (by simp [results, Tryz.results7, go_sem, Cfg.val, plainCfg]) rfl ⟨_, _, _, _, rfl, ⟨?_, ?_, ?_, ?_⟩, ?_⟩
  · exact row_here (n := 1) (sz := 1) (four_allocs w _ _ _ _).1 rfl
  · exact ⟨rfl, .inl ⟨rfl, _, _, rfl⟩⟩
  · exact row_here (n := 1) (sz := 2) (four_allocs w _ _ _ _).2.1 rfl
  · exact row_here (n := 1) (sz := 1) (four_allocs w _ _ _ _).2.2 rfl
  · exact ((((Below.refl _ _).alloc (Nat.le_refl _) _).alloc (by simp) _).alloc (by simp; omega) _).alloc (by simp; omega) _
end Go.Proofs.YtgjjjdccbpjnfaaGreatDoor

/- The program's address as it is kept, and its question whether a text is one. -/
namespace Go.Proofs.YtgjjjdccbpjnfaaGreatDoor
open Go.RowKit

/-- an address as it is kept; nothing, if it is none -/
def asKeptR (l : List UInt8) : List UInt8 := if (keptR l).2 then (keptR l).1 else []
theorem asKeptR_len (l : List UInt8) : (asKeptR l).length ≤ 61 := by
  unfold asKeptR
  split
  · have := addrR_len l
    unfold keptR
    simp only [List.length_append, List.length_cons]
    omega
  · simp

set_option maxHeartbeats 400000 in
set_option maxRecDepth 100000 in
theorem asKept_any (l : List UInt8) (m : Int) (w : World) (hl : l.length ≤ 140737488355328) (hm : w.cell? ⟨0, 0, none⟩ = some (.int .i64 m)) :
    Calls Tryz.prog 222 #[.string (bs l)] w fun e w' => e = .returned (.tuple #[.string (bs (asKeptR l)), .bool (keptR l).2]) ∧ Below w.heap.size w w' := by
  have hcall := read_any (bs l) m w (by rw [bs_size]; exact hl) hm
  go_enter Tryz.func222, Tryz.ntmps222
  go_wp2_with fail
  refine hcall.mono ?_
  rintro e w1 ⟨x, y, f, rfl, hc, hb⟩
  obtain ⟨xl, rfl⟩ : ∃ xl, x = bs xl := ⟨_, (bs_of x).symm⟩
  obtain ⟨yl, rfl⟩ : ∃ yl, y = bs yl := ⟨_, (bs_of y).symm⟩
  rw [bs_toList, bs_toList, bs_toList] at hc
  have hlen := addrR_len l
  rw [hc] at hlen
  obtain ⟨hx, hy⟩ := hlen
  have hx' : (bs xl).size ≤ 20 := by rw [bs_size]; exact hx
  have hy' : (bs yl).size ≤ 40 := by rw [bs_size]; exact hy
  have HK : Hid (keptR l = (xl ++ 64 :: yl, f)) := Lib.hid (by unfold keptR; rw [hc])
  have HB := Lib.hid hb
  clear hc hb hx hy hcall hm
  cases f with
  | false =>
    have HE : Hid (asKeptR l = []) := Lib.hid (by unfold asKeptR; rw [HK.out]; rfl)
    go_wp2_with fail
    go_ret2
    exact ⟨by rw [HE.out, HK.out]; rfl, HB.out⟩
  | true =>
    have HE : Hid (asKeptR l = xl ++ 64 :: yl) := Lib.hid (by unfold asKeptR; rw [HK.out]; rfl)
    go_wp2_with fail
    go_ret2
    refine ⟨?_, HB.out⟩
    rw [show (⟨#[64]⟩ : ByteArray) = bs [64] from rfl, bs_append, bs_append, HE.out, HK.out]
    simp

set_option maxHeartbeats 400000 in
set_option maxRecDepth 100000 in
theorem isKept_any (l : List UInt8) (m : Int) (w : World) (hl : l.length ≤ 140737488355328) (hm : w.cell? ⟨0, 0, none⟩ = some (.int .i64 m)) :
    Calls Tryz.prog 165 #[.string (bs l)] w fun e w' => e = .returned (.bool (isKeptB l)) ∧ Below w.heap.size w w' := by
  have hcall := asKept_any l m w hl hm
  have HK : Hid (isKeptB l = ((keptR l).2 && (asKeptR l == l))) := Lib.hid (by
    unfold isKeptB asKeptR
    cases (keptR l).2 <;> rfl)
  obtain ⟨K, eK⟩ : ∃ K, asKeptR l = K := ⟨_, rfl⟩
  obtain ⟨f, ef⟩ : ∃ f, (keptR l).2 = f := ⟨_, rfl⟩
  rw [eK, ef] at hcall HK
  clear eK ef
  go_enter Tryz.func165, Tryz.ntmps165
  go_wp2_with fail
  refine hcall.mono ?_
  rintro e w1 ⟨rfl, hb⟩
  have HB := Lib.hid hb
  clear hb hcall hm
  cases f with
  | false =>
    go_wp2_with fail
    go_ret
    exact ⟨ret_bool (by rw [HK.out]; rfl), HB.out⟩
  | true =>
    go_wp2_with fail
    go_ret
    refine ⟨ret_bool ?_, HB.out⟩
    rw [bs_beq, HK.out]
    simp
end Go.Proofs.YtgjjjdccbpjnfaaGreatDoor
