/-
  The law of pieces holds at every input of bulk at most 1048576: whatever comes on a connection, from whatever address, what is said to it and what is kept does not hang on the pieces in which it came, nor does whether the connection is closed.
  Conditions: the row's own (the bulk, the form's reach; the listed tables of Go's library start as the program's text and the library lay them: the card ties them; the pruned copy of the project).
-/
import Derived.Test.YtadcidbeealdpaaGreatDoorRows
import Derived.Test.YtadcidbeealdpaaGreatDoorTie
import Derived.Test.YtadcidbeealdpaaGreatDoorCards
import Derived.Test.YtadcidbeealdpaaGreatDoorS38
import Derived.SevenTiedAt
namespace Go.Proofs.YtadcidbeealdpaaGreatDoor

theorem pieces_name : Tryz.prog.funcNamed Rows.piecesUptoRow.func = some 3 := by kernel_rfl
theorem pieces_holds : Rows.PiecesUptoSaid :=
  OpenClaim.holds_of_cond 3 Tryz.f3 rfl rfl rfl rfl rfl rfl rfl ⟨rfl, rfl, rfl, rfl, rfl⟩ rfl rfl rfl rfl rfl pieces_name Tryz.func3 (by kernel_rfl) (of_decide_eq_true (by kernel_rfl))
    (by unfold Func.isWrapper; first | (rw [if_pos (by decide +kernel)]; kernel_rfl) | (rw [if_neg (by decide +kernel)]; exact ⟨rfl, rfl⟩))
    (fun os started H enc _ F => by rw [OpenClaim.pre_eq_preRow]; exact pieces_lifted os started H enc F)

theorem pieces_card : Rows.PiecesUptoCardSaid :=
  Claim7.holds_tied_plain_at .later [] Rows.piecesUptoCard.laidKinds true Rows.piecesUptoCard.stood.harness Rows.piecesUptoCard.stood.looks pieces_holds (fun _ h => by cases h) (by kernel_rfl) (fun _ h => by cases h) piecesUpto_row_tie rfl ⟨rfl, rfl⟩ (by kernel_rfl) (by kernel_rfl)
    (fun f fn hf hfn => by
      obtain rfl : f = 3 := Option.some.inj (pieces_name.symm.trans hf) |>.symm
      obtain rfl : fn = Tryz.f3 := (Option.some.inj (Tryz.func3.symm.trans hfn)).symm
      exact ⟨by kernel_rfl, fun j t ht => by
        rw [Tryz.params3] at ht
        have hm : t ∈ [3, 9, 22] := by simpa using Array.mem_of_getElem? ht
        have hall : ([3, 9, 22].all fun u => !Tryz.prog.wantsStandIn u) = true := by kernel_rfl
        exact (show Tryz.prog.wantsStandIn t = false by simpa using List.all_eq_true.1 hall t hm)⟩)
    (by kernel_rfl)
#print axioms pieces_card
end Go.Proofs.YtadcidbeealdpaaGreatDoor
