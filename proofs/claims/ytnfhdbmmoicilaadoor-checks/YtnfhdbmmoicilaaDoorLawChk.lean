/- Settings that the law makes itself. -/
import Derived.Test.YtnfhdbmmoicilaaDoorLent2
namespace Go.Proofs.YtnfhdbmmoicilaaDoor
open Go.RowKit

def plainCfg : Cfg := ⟨⟨#[109, 120, 46, 111, 114, 103]⟩, [⟨#[97, 46, 111, 114, 103]⟩], [], [(⟨#[117]⟩, ⟨#[119]⟩)], 2, 100, [5], 50, 100000⟩
def noCfg : Cfg := ⟨⟨#[]⟩, [], [], [], 0, 0, [], 0, 0⟩
theorem plain_may : mayB plainCfg = true := by decide
theorem no_may : mayB noCfg = false := by decide
theorem plain_size : CfgSz plainCfg := by
  refine ⟨by decide, by decide, ?_, by decide, by decide, ?_, by decide⟩
  · intro s hs
    rcases List.mem_cons.1 hs with rfl | hs
    · decide
    · cases hs
  · intro s hs
    rcases List.mem_cons.1 hs with rfl | hs
    · exact ⟨by decide, by decide⟩
    · cases hs
theorem no_size : CfgSz noCfg := ⟨by decide, by decide, (fun _ h => by cases h), by decide, by decide, (fun _ h => by cases h), by decide⟩
theorem no_at (w : World) : CfgAt w noCfg (.slice none 0 0) (.slice none 0 0) (.slice none 0 0) (.slice none 0 0) :=
  ⟨⟨rfl, .inl ⟨rfl, _, _, rfl⟩⟩, ⟨rfl, .inl ⟨rfl, _, _, rfl⟩⟩, ⟨rfl, .inl ⟨rfl, _, _, rfl⟩⟩, ⟨rfl, .inl ⟨rfl, _, _, rfl⟩⟩⟩
theorem four_allocs (w : World) (a b c d : Obj) : ((((w.alloc a).alloc b).alloc c).alloc d).heap[w.heap.size + 1]? = some b ∧ ((((w.alloc a).alloc b).alloc c).alloc d).heap[w.heap.size + 1 + 1]? = some c ∧ ((((w.alloc a).alloc b).alloc c).alloc d).heap[w.heap.size + 1 + 1 + 1]? = some d := by
  refine ⟨?_, ?_, ?_⟩
  · show ((((w.heap.push a).push b).push c).push d)[w.heap.size + 1]? = some b
    rw [Array.getElem?_push, if_neg (by simp), Array.getElem?_push, if_neg (by simp), Array.getElem?_push, if_pos (by simp)]
  · show ((((w.heap.push a).push b).push c).push d)[w.heap.size + 1 + 1]? = some c
    rw [Array.getElem?_push, if_neg (by simp), Array.getElem?_push, if_pos (by simp)]
  · show ((((w.heap.push a).push b).push c).push d)[w.heap.size + 1 + 1 + 1]? = some d
    rw [Array.getElem?_push, if_pos (by simp)]
theorem row_here {w : World} {b n sz : Nat} {l : List Value} {t : TypeId} (h : w.heap[b]? = some (.cells l.toArray t (0, 0))) (hl : l.length = n * sz) : RowAt w (.slice (some ⟨b, 0, none⟩) n n) n sz l :=
  ⟨hl, .inr ⟨b, 0, n, rfl, Nat.le_refl _, fun j _ => by rw [Lib.cell_of_heap h, Nat.zero_add, List.getElem?_toArray]⟩⟩

set_option maxHeartbeats 4000000 in
set_option maxRecDepth 100000 in
theorem plain_any (w : World) : Calls Tryd.prog 10 #[] w fun e w' => ∃ vD vN vU vW, e = .returned (plainCfg.val vD vN vU vW) ∧ CfgAt w' plainCfg vD vN vU vW ∧ Below w.heap.size w w' := by
  go_enter Tryd.func10, Tryd.ntmps10
  go_wp2_with fail
  refine bodyPost_ret (v := plainCfg.val (.slice (some ⟨w.heap.size + 1, 0, none⟩) 1 1) (.slice none 0 0) (.slice (some ⟨w.heap.size + 1 + 1, 0, none⟩) 1 1) (.slice (some ⟨w.heap.size + 1 + 1 + 1, 0, none⟩) 1 1)) (by simp [results, Tryd.results10, go_sem, Cfg.val, plainCfg]) rfl ⟨_, _, _, _, rfl, ⟨?_, ?_, ?_, ?_⟩, ?_⟩
  · exact row_here (n := 1) (sz := 1) (four_allocs w _ _ _ _).1 rfl
  · exact ⟨rfl, .inl ⟨rfl, _, _, rfl⟩⟩
  · exact row_here (n := 1) (sz := 2) (four_allocs w _ _ _ _).2.1 rfl
  · exact row_here (n := 1) (sz := 1) (four_allocs w _ _ _ _).2.2 rfl
  · exact ((((Below.refl _ _).alloc (Nat.le_refl _) _).alloc (by simp) _).alloc (by simp; omega) _).alloc (by simp; omega) _
end Go.Proofs.YtnfhdbmmoicilaaDoor
