import Derived.Test.YtgjjjdccbpjnfaaGreatDoorS08
import Derived.Deep.RegionLaw
import Derived.Deep.AppendLies

/- A mail more in the document's store. -/
namespace Go.Proofs.YtgjjjdccbpjnfaaGreatDoor
open Go.RowKit

set_option maxHeartbeats 1000000 in
set_option maxRecDepth 100000 in
theorem refAdd_any (base p : Nat) (S : PStore) (m : PMail) (v : Value) (w : World) (h : StoreIn base w p S) (hn : S.items.length ≤ 1048576) (hv : w.ownsRow base 9 1 v m.tos.length (textCells m.tos)) (hm : MailSz m) (h1 : 1 ≤ m.tos.length) :
    Calls Tryz.prog 186 #[.pointer (some ⟨p, 0, none⟩), .agg (mailCells m v)] w fun e w' => e = .returned (.tuple #[]) ∧ StoreIn base w' p ⟨S.items ++ [⟨m, List.replicate m.tos.length false⟩], m.time⟩ ∧ Touch [146, 168] w w' ∧ Below base w w' := by
  obtain ⟨id, time, frm, tos, body⟩ := m
  have hmm := hm
  obtain ⟨z1, z2, z3, z4, z5, z6⟩ := hm
  simp only at hv h1 z1 z2 z3 z4 z5 z6
  obtain ⟨vL, l, hl, hp, hP, hrow, hnd, hit⟩ := h
  have hll : l.length ≤ 1048576 := by rw [← List.length_map (f := (·.1)), hl]; exact hn
  obtain ⟨gv, capv, ev⟩ : ∃ gv capv, v = .slice (some ⟨gv, 0, none⟩) tos.length capv := by
    rcases hv.2 with ⟨_, h0⟩ | ⟨g, cap, cur, e, _⟩
    · omega
    · exact ⟨g, cap, e⟩
  subst ev
  obtain ⟨i0, hi0, hz0, hz1, hz2⟩ := info_parts info_item
  have hmk := fun w' => make_n (P := Tryz.prog) Tryz.underlying166 info_bool tos.length (by omega) (by omega) w'
  have hpl : p < w.heap.size := by
    rcases Nat.lt_or_ge p w.heap.size with h' | h'
    · exact h'
    · rw [Array.getElem?_eq_none h'] at hP; cases hP
  have ap : vL.ownBlock ≠ some p := by
    rcases hrow.2 with ⟨e, _⟩ | ⟨g, cap, cur, e, _, hg, _⟩
    · subst e; intro e; cases e
    · subst e
      intro e
      injection e with e
      subst e
      rw [hg] at hP
      injection hP with hP
      injection hP with _ hP _
      exact absurd hP (by decide)
  have ab : vL.ownBlock ≠ some w.heap.size := fun e => by have := (hrow.lt _ e).2; omega
  simp only [mailCells]
  obtain ⟨W0, hW0⟩ : ∃ W0 : World, w.alloc (.cells #[.int .i64 id, .int .i64 time, .string (bs frm), .slice (some ⟨gv, 0, none⟩) tos.length capv, .string (bs body)] 26) = W0 := ⟨_, rfl⟩
  have hs0 : W0.heap.size = w.heap.size + 1 := by rw [← hW0]; simp
  have hb0 : Below w.heap.size w W0 := by rw [← hW0]; exact (Below.refl _ _).alloc (Nat.le_refl _) _
  have hx : ∀ j : Nat, W0.cell? ⟨w.heap.size, j, none⟩ = (#[.int .i64 id, .int .i64 time, .string (bs frm), .slice (some ⟨gv, 0, none⟩) tos.length capv, .string (bs body)] : Array Value)[j]? := fun j => by rw [← hW0]; exact World.cell?_alloc_mark w _ 26 (0, 0) j
  have hrow0 : W0.ownsRow base 168 6 vL l.length (rowCells l) := by rw [← hW0]; exact hrow.alloc _
  have P0 : W0.cell? ⟨p, 0, none⟩ = some vL := (hb0.cell hpl).trans (by rw [Lib.cell_of_heap hP]; rfl)
  have P1 : W0.cell? ⟨p, 1, none⟩ = some (.int .i64 S.time) := (hb0.cell hpl).trans (by rw [Lib.cell_of_heap hP]; rfl)
  have F0 : W0.frozen? ⟨p, 0, none⟩ = false := (hb0.frozen hpl).trans (Lib.frozen_of_heap hP 0)
  have F1 : W0.frozen? ⟨p, 1, none⟩ = false := (hb0.frozen hpl).trans (Lib.frozen_of_heap hP 1)
  have k0 : W0.cell? ⟨w.heap.size, 0, none⟩ = some (.int .i64 id) := hx 0
  have k1 : W0.cell? ⟨w.heap.size, 1, none⟩ = some (.int .i64 time) := hx 1
  have k2 : W0.cell? ⟨w.heap.size, 2, none⟩ = some (.string (bs frm)) := hx 2
  have k3 : W0.cell? ⟨w.heap.size, 3, none⟩ = some (.slice (some ⟨gv, 0, none⟩) tos.length capv) := hx 3
  have k4 : W0.cell? ⟨w.heap.size, 4, none⟩ = some (.string (bs body)) := hx 4
  have hvs : ∃ aL nL cL, vL = .slice aL nL cL := by
    rcases hrow.2 with ⟨e, _⟩ | ⟨g, cap, cur, e, _⟩
    · exact ⟨_, _, _, e⟩
    · exact ⟨_, _, _, e⟩
  obtain ⟨aL, nL, cL, rfl⟩ := hvs
  have HIT := Lib.hid hit
  have HND := Lib.hid hnd
  have HL := Lib.hid hl
  have HP := Lib.hid hP
  have HV := Lib.hid hv
  have HB0 := Lib.hid hb0
  clear hit hnd hl hx hv hb0
  have a0 : ∀ o : Obj, (W0.alloc o).cell? ⟨w.heap.size, 0, none⟩ = some (.int .i64 id) := fun o => (((Below.refl W0.heap.size W0).alloc (Nat.le_refl _) o).cell (by show w.heap.size < _; omega)).trans k0
  have a1 : ∀ o : Obj, (W0.alloc o).cell? ⟨w.heap.size, 1, none⟩ = some (.int .i64 time) := fun o => (((Below.refl W0.heap.size W0).alloc (Nat.le_refl _) o).cell (by show w.heap.size < _; omega)).trans k1
  have a2 : ∀ o : Obj, (W0.alloc o).cell? ⟨w.heap.size, 2, none⟩ = some (.string (bs frm)) := fun o => (((Below.refl W0.heap.size W0).alloc (Nat.le_refl _) o).cell (by show w.heap.size < _; omega)).trans k2
  have a3 : ∀ o : Obj, (W0.alloc o).cell? ⟨w.heap.size, 3, none⟩ = some (.slice (some ⟨gv, 0, none⟩) tos.length capv) := fun o => (((Below.refl W0.heap.size W0).alloc (Nat.le_refl _) o).cell (by show w.heap.size < _; omega)).trans k3
  have a4 : ∀ o : Obj, (W0.alloc o).cell? ⟨w.heap.size, 4, none⟩ = some (.string (bs body)) := fun o => (((Below.refl W0.heap.size W0).alloc (Nat.le_refl _) o).cell (by show w.heap.size < _; omega)).trans k4
  have ap1 : ∀ o : Obj, (W0.alloc o).cell? ⟨p, 0, none⟩ = some (.slice aL nL cL) := fun o => (((Below.refl W0.heap.size W0).alloc (Nat.le_refl _) o).cell (by show p < _; omega)).trans P0
  have ap2 : ∀ o o' : Obj, ((W0.alloc o).alloc o').cell? ⟨p, 0, none⟩ = some (.slice aL nL cL) := fun o o' => ((((Below.refl W0.heap.size W0).alloc (Nat.le_refl _) o).alloc (by simp) o').cell (by show p < _; omega)).trans P0
  have n1 := World.new_ne W0 _ P0
  have HS0 := Lib.hid hs0
  have HK1 : Hid (∀ o o' : Obj, ((W0.alloc o).alloc o').drew.cell? ⟨w.heap.size, 1, none⟩ = some (.int .i64 time)) := Lib.hid (fun o o' => ((((Below.refl W0.heap.size W0).alloc (Nat.le_refl _) o).alloc (by simp) o').cell (by show w.heap.size < _; omega)).trans k1)
  have HP1 : Hid (∀ o o' : Obj, ((W0.alloc o).alloc o').drew.cell? ⟨p, 1, none⟩ = some (.int .i64 S.time)) := Lib.hid (fun o o' => ((((Below.refl W0.heap.size W0).alloc (Nat.le_refl _) o).alloc (by simp) o').cell (by show p < _; omega)).trans P1)
  have HF1 : Hid (∀ o o' : Obj, ((W0.alloc o).alloc o').drew.frozen? ⟨p, 1, none⟩ = false) := Lib.hid (fun o o' => ((((Below.refl W0.heap.size W0).alloc (Nat.le_refl _) o).alloc (by simp) o').frozen (by show p < _; omega)).trans F1)
  have hpw : ¬ w.heap.size = p := by omega
  have hpw' : ¬ p = w.heap.size := by omega
  have hcl2 : ∀ o o' : Obj, ((W0.alloc o).alloc o').drew.cell? ⟨p, 0, none⟩ = some (.slice aL nL cL) := fun o o' => ((((Below.refl W0.heap.size W0).alloc (Nat.le_refl _) o).alloc (by simp) o').cell (by show p < _; omega)).trans P0
  have HCL2 := Lib.hid hcl2
  clear hcl2
  have hfz : ∀ o : Obj, (W0.alloc o).frozen? ⟨p, 0, none⟩ = false := fun o => (((Below.refl W0.heap.size W0).alloc (Nat.le_refl _) o).frozen (by show p < _; omega)).trans F0
  have hfz2 : ∀ o o' : Obj, ((W0.alloc o).alloc o').frozen? ⟨p, 0, none⟩ = false := fun o o' => ((((Below.refl W0.heap.size W0).alloc (Nat.le_refl _) o).alloc (by simp) o').frozen (by show p < _; omega)).trans F0
  go_enter Tryz.func186, Tryz.ntmps186
  go_wp2_with fail
  clear hW0
  go_region_law ((refine step_append_lies _ (by rfl) _ _ _ (by rfl) base 168 i0 _ 6 96 Tryz.underlying144 hi0 hz0 hz1 hz2 rfl (by omega) (.slice aL nL cL) l.length (rowCells l) (by rfl) (((hrow0.alloc _).alloc _).drew) ⟨w.heap.size + 1 + 1, 0, none⟩ 1 1 [.int .i64 id, .int .i64 time, .string (bs frm), .slice (some ⟨gv, 0, none⟩) tos.length capv, .string (bs body), .slice (some ⟨w.heap.size + 1, 0, none⟩) tos.length tos.length] (by rfl) (by rfl) (World.news_of_block (cs := #[.int .i64 id, .int .i64 time, .string (bs frm), .slice (some ⟨gv, 0, none⟩) tos.length capv, .string (bs body), .slice (some ⟨w.heap.size + 1, 0, none⟩) tos.length tos.length]) (t := 168) (fr := (0, 0)) (newest hs0 _ _)) (by simp [Value.oneCell']) (by omega) (by unfold maxLen; omega) (by omega) (by simp; omega) (w.heap.size + 1 + 1 + 1) (by simp [hs0]) ?_; intro gg cap w1 hown1 hgrow hat hlt; have hpf := (hgrow.frozen_far ⟨p, 0, none⟩ (by simp; omega) (Ne.symm ap)).trans (hfz2 _ _); have hpc := (hgrow.cell_far ⟨p, 0, none⟩ (by simp; omega) (Ne.symm ap)).trans (HCL2.out _ _)))
  all_goals
    have D := add_done HS0.out HB0.out HL.out hp HP.out hrow HND.out HIT.out ap HV.out hmm h1 hgrow hown1
    have HD := Lib.hid D
    have q0 := (hgrow.cell_far ⟨w.heap.size, 1, none⟩ (by simp; omega) (Ne.symm ab)).trans (HK1.out _ _)
    have q1 := (hgrow.cell_far ⟨p, 1, none⟩ (by simp; omega) (Ne.symm ap)).trans (HP1.out _ _)
    have q2 := (hgrow.frozen_far ⟨p, 1, none⟩ (by simp; omega) (Ne.symm ap)).trans (HF1.out _ _)
    clear D hgrow hown1 hat
    go_wp2_with fail
    go_end0
    exact ⟨rfl, HD.out⟩
end Go.Proofs.YtgjjjdccbpjnfaaGreatDoor
