/- What is lent: rows that the law makes, and what copy does to them. -/
import Derived.Test.YtnfhdbmmoicilaaDoorCfg4
import Derived.Laws.CopyRow
import Derived.Laws.MakeOwn
namespace Go.Proofs.YtnfhdbmmoicilaaDoor
open Go.RowKit

/-- copy into a row of one's own, elements of whatever size -/
theorem run_copy_any {P : Program} (w : World) (dT sT ty elem : TypeId) (sz g dLen dCap : Nat) (a : Addr) (sLen sCap : Nat) (cur : Array Value) (t : TypeId) (cs : List Value)
    (hu : P.underlying dT = some (.slice elem)) (hs : (P.info? elem).map (·.size) = some sz)
    (hg : w.heap[g]? = some (.cells cur t (0, 0))) (hle : sLen ≤ dLen) (hn : cs.length = sLen * sz)
    (hsrc : ∀ j v, cs[j]? = some v → w.cell? (a.add j) = some v) (hfit : cs.length ≤ cur.size) (h1 : ∀ v ∈ cs, v.oneCell' = true) :
    (Builtin.copy_ #[dT, sT] ty #[.slice (some ⟨g, 0, none⟩) dLen dCap, .slice (some a) sLen sCap]).run P w =
      .ok (goInt sLen) (w.setRow g (cs ++ cur.toList.drop cs.length).toArray) := by
  have hl := run_loadCells_list (P := P) w a cs hsrc
  have hst := run_storeCells_at P g 0 t cs 0 cur w hg (by simpa using hfit) h1
  have hmin : Nat.min sLen dLen = sLen := Nat.min_eq_left hle
  cases hq : P.info? elem with
  | none => simp [hq] at hs
  | some i =>
    have hi : i.size = sz := by simpa [hq] using hs
    rw [hn] at hl
    simp [Builtin.copy_, run_underlying hu, Builtin.lenOf, Builtin.firstCells, sizeOf, typeInfo, hq, hi, hmin, hl, hst]

/-- .. of no element -/
theorem run_copy_zero {P : Program} (w : World) (dT sT ty elem : TypeId) (sz g dLen dCap : Nat) (a : Option Addr) (sCap : Nat)
    (hu : P.underlying dT = some (.slice elem)) (hs : (P.info? elem).map (·.size) = some sz) :
    (Builtin.copy_ #[dT, sT] ty #[.slice (some ⟨g, 0, none⟩) dLen dCap, .slice a 0 sCap]).run P w = .ok (goInt 0) w := by
  cases hq : P.info? elem with
  | none => simp [hq] at hs
  | some i =>
    have hi : i.size = sz := by simpa [hq] using hs
    cases a with
    | none => simp [Builtin.copy_, run_underlying hu, Builtin.lenOf, Builtin.firstCells, sizeOf, typeInfo, hq, storeCells]
    | some a =>
      have hl := run_loadCells_list (P := P) w a [] (fun j v hj => by simp at hj)
      simp only [List.length_nil] at hl
      simp [Builtin.copy_, run_underlying hu, Builtin.lenOf, Builtin.firstCells, sizeOf, typeInfo, hq, hl, storeCells]

/-- a row of n and eight more elements, as make lays it -/
theorem make_row {P : Program} (t e : TypeId) (i : TypeInfo) (z : Value) (sz bytes n : Nat) (ht : P.underlying t = some (.slice e)) (hi : P.info? e = some i) (hz : i.zero = some z) (hsz : i.size = sz) (hby : i.bytes = bytes) (hb : bytes * (n + 8) ≤ 281474976710656) (hn : n ≤ 140737488351232) :
    ∃ C : Array Value, C.size = (n + 8) * sz ∧ ∀ w : World, (Instr.makeSlice t (.int .i64 ((n : Int) + 8)) (.int .i64 ((n : Int) + 8))).run P w = .ok (.slice (some ⟨w.heap.size, 0, none⟩) (n + 8) (n + 8)) (w.alloc (.cells C e)) := by
  refine ⟨madeCells z.cells ((n + 8) * i.size), ?_, fun w => ?_⟩
  · rw [← hsz]; simp [madeCells]
  · have := run_make (P := P) w t e i z ht hi hz .i64 .i64 ((n : Int) + 8) ((n : Int) + 8) (by omega) (Int.le_refl _) (by
      have h9 : ((bytes : Int) * ((n : Int) + 8)) = ((bytes * (n + 8) : Nat) : Int) := by rw [Int.natCast_mul, Int.natCast_add]; rfl
      rw [hby, h9]
      generalize bytes * (n + 8) = q at hb
      omega) (by omega)
    rw [show ((n : Int) + 8).toNat = n + 8 by omega] at this
    exact this

/-- a row is made and filled -/
theorem stage {P : Program} {T E : TypeId} {z : Value} {sz bytes : Nat} (hT : P.underlying T = some (.slice E)) (hinf : (P.info? E).map (fun i => (i.zero, i.size, i.bytes)) = some (some z, sz, bytes)) (n : Nat) (hb : bytes * (n + 8) ≤ 281474976710656) (hn : n ≤ 140737488351232) :
    ∃ C : Array Value, (∀ w : World, (Instr.makeSlice T (.int .i64 ((n : Int) + 8)) (.int .i64 ((n : Int) + 8))).run P w = .ok (.slice (some ⟨w.heap.size, 0, none⟩) (n + 8) (n + 8)) (w.alloc (.cells C E))) ∧
      ∀ (W : World) (v : Value) (cs : List Value), RowAt W v n sz cs → (∀ u ∈ cs, u.oneCell' = true) → ∃ (W2 : World) (D : Array Value), (∀ ty, (Builtin.copy_ #[T, T] ty #[.slice (some ⟨W.heap.size, 0, none⟩) (n + 8) (n + 8), v]).run P (W.alloc (.cells C E)) = .ok (goInt n) W2) ∧ Below W.heap.size W W2 ∧ W2.heap.size = W.heap.size + 1 ∧ W2.heap[W.heap.size]? = some (.cells D E (0, 0)) ∧ D.size = (n + 8) * sz ∧ ∀ j : Nat, j < n * sz → D[j]? = cs[j]? := by
  obtain ⟨i, hi, hz, hs, hby⟩ := info_parts hinf
  obtain ⟨C, hC, hmk⟩ := make_row T E i z sz bytes n hT hi hz hs hby hb hn
  have hsz : (P.info? E).map (·.size) = some sz := by rw [hi]; simp [hs]
  refine ⟨C, hmk, fun W v cs h h1 => ?_⟩
  have hal : (W.alloc (.cells C E)).heap[W.heap.size]? = some (.cells C E (0, 0)) := by
    show (W.heap.push (.cells C E))[W.heap.size]? = _
    simp
  obtain ⟨hl, ⟨rfl, a, cap, rfl⟩ | ⟨b, off, cap, rfl, hcp, hc⟩⟩ := h
  · refine ⟨W.alloc (.cells C E), C, fun ty => run_copy_zero _ T T ty E sz _ _ _ a cap hT hsz, (Below.refl _ _).alloc (Nat.le_refl _) _, by simp, hal, hC, fun j hj => by omega⟩
  · have hfit : cs.length ≤ C.size := by rw [hl, hC]; exact Nat.mul_le_mul_right _ (by omega)
    have hrun := fun ty => run_copy_any (W.alloc (.cells C E)) T T ty E sz W.heap.size (n + 8) (n + 8) ⟨b, off, none⟩ n cap C E cs hT hsz hal (by omega) hl (fun j u hj => by
      have hj' : j < n * sz := by
        have := (List.getElem?_eq_some_iff.1 hj).1
        omega
      have h2 := hc j hj'
      rw [hj] at h2
      have hlt := block_lt h2
      have e : Addr.add ⟨b, off, none⟩ j = ⟨b, off + j, none⟩ := by unfold Addr.add; simp
      rw [e, ((Below.refl W.heap.size W).alloc (Nat.le_refl _) _).cell (p := ⟨b, off + j, none⟩) hlt, h2]) hfit h1
    refine ⟨_, _, hrun, ?_, ?_, setRow_heap _ _ C _ E _ hal, ?_, ?_⟩
    · exact ⟨rfl, rfl, rfl, by simp, fun k hk => (setRow_other _ _ k _ (by omega)).trans (Below.heap_alloc _ _ _ hk)⟩
    · simp
    · simp; omega
    · intro j hj
      have : j < cs.length := by omega
      simp [List.getElem?_append, this]
end Go.Proofs.YtnfhdbmmoicilaaDoor
