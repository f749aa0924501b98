/- No place is read twice. -/
import Derived.Test.YtgjjjdccbpjnfaaGreatDoorTieA
namespace Go.Proofs.YtgjjjdccbpjnfaaGreatDoor
open Go
/-- places block by block, and in each block upward -/
def runsUp (cur last : Nat) (seen : List Nat) : List MemPlace → Bool
  | [] => true
  | .map _ :: _ => false
  | .cell b o :: r => if b = cur then decide (last < o) && runsUp cur o seen r else !seen.contains b && runsUp b o (cur :: seen) r
theorem runsUp_fine : ∀ (l : List MemPlace) (cur last : Nat) (seen : List Nat), runsUp cur last seen l = true → (∀ p ∈ l, p.block ∉ seen ∨ p.block = cur) ∧ (∀ p ∈ l, p.block = cur → ∃ o, p = .cell cur o ∧ last < o) ∧ l.Nodup
  | [], _, _, _, _ => ⟨fun _ h => (by cases h), fun _ h => (by cases h), List.nodup_nil⟩
  | .map _ :: _, _, _, _, h => by simp [runsUp] at h
  | .cell b o :: r, cur, last, seen, h => by
    unfold runsUp at h
    split at h
    · rename_i e
      subst e
      simp only [Bool.and_eq_true, decide_eq_true_eq] at h
      obtain ⟨h1, h2, h3⟩ := runsUp_fine r b o seen h.2
      refine ⟨fun p hp => ?_, fun p hp hb => ?_, List.nodup_cons.2 ⟨fun hm => ?_, h3⟩⟩
      · rcases List.mem_cons.1 hp with rfl | hp
        · exact .inr rfl
        · exact h1 p hp
      · rcases List.mem_cons.1 hp with rfl | hp
        · exact ⟨o, rfl, h.1⟩
        · obtain ⟨o', e, hl⟩ := h2 p hp hb
          exact ⟨o', e, by omega⟩
      · obtain ⟨o', e, hl⟩ := h2 _ hm rfl
        injection e with _ e
        omega
    · rename_i e
      simp only [Bool.and_eq_true, Bool.not_eq_true', List.contains_eq_mem, decide_eq_false_iff_not] at h
      obtain ⟨h1, h2, h3⟩ := runsUp_fine r b o (cur :: seen) h.2
      have away : ∀ p ∈ r, p.block ≠ cur := fun p hp hc => by
        rcases h1 p hp with h9 | h9
        · exact h9 (by rw [hc]; exact List.mem_cons_self ..)
        · exact e (h9.symm.trans hc)
      refine ⟨fun p hp => ?_, fun p hp hb => ?_, List.nodup_cons.2 ⟨fun hm => ?_, h3⟩⟩
      · rcases List.mem_cons.1 hp with rfl | hp
        · exact .inl h.1
        · rcases h1 p hp with h9 | h9
          · exact .inl fun hs => h9 (List.mem_cons_of_mem _ hs)
          · exact .inl (by rw [h9]; exact h.1)
      · rcases List.mem_cons.1 hp with rfl | hp
        · exact absurd hb e
        · exact absurd hb (away p hp)
      · obtain ⟨o', e', hl⟩ := h2 _ hm rfl
        injection e' with _ e'
        omega
/-- the first place's block stands for the one ahead -/
def upB : List MemPlace → Bool
  | .cell b o :: r => runsUp b o [] r
  | _ => false
theorem upB_nodup {l : List MemPlace} (h : upB l = true) : l.Nodup := by
  cases l with
  | nil => exact List.nodup_nil
  | cons p r =>
    cases p with
    | map _ => cases h
    | cell b o =>
      obtain ⟨_, h2, h3⟩ := runsUp_fine r b o [] h
      refine List.nodup_cons.2 ⟨fun hm => ?_, h3⟩
      obtain ⟨o', e, hl⟩ := h2 _ hm rfl
      injection e with _ e
      omega
theorem tie_2 (os : Os) (tape : Tape) : (DataW.laidRun Tryz.prog (varsWorld Tryz.prog 400 (varsId Tryz.prog) os tape).memory 8 (tiedList.map (·.1))).map (fun x => upB x.2) = some true := by kernel_rfl
end Go.Proofs.YtgjjjdccbpjnfaaGreatDoor
