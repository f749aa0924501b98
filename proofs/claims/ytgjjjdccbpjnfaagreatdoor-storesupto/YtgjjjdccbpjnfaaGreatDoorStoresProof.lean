/-
  The law of stores holds at every script of bulk at most 1048576: whatever was kept is opened by the program as the document's own answer opens it, what is kept and what is in the queue are the same, several posts stay apart, and the two known inputs come out as the document says.
  Conditions: the row's own (the bulk, the form's reach; the listed tables of Go's library start as the program's text and the library lay them: the card ties them; the pruned copy of the project).
-/
import Derived.Test.YtgjjjdccbpjnfaaGreatDoorRows
import Derived.Test.YtgjjjdccbpjnfaaGreatDoorTieE
import Derived.Test.YtgjjjdccbpjnfaaGreatDoorCards
import Derived.Test.YtgjjjdccbpjnfaaGreatDoorStoresHolds
import Derived.Test.YtgjjjdccbpjnfaaGreatDoorCardFacts
import Derived.SevenTiedAt
namespace Go.Proofs.YtgjjjdccbpjnfaaGreatDoor

theorem stores_card : Rows.StoresUptoCardSaid :=
  Claim7.holds_tied_plain_at .later [] Rows.storesUptoCard.laidKinds true Rows.storesUptoCard.stood.harness Rows.storesUptoCard.stood.looks stores_holds (fun _ h => by cases h) card_w (fun _ h => by cases h) storesUpto_row_tie rfl ⟨rfl, rfl⟩ card_m card_n
    (fun f fn hf hfn => by
      obtain rfl : f = 3 := Option.some.inj (card_f.symm.trans hf) |>.symm
      obtain rfl : fn = Tryz.f3 := (Option.some.inj (Tryz.func3.symm.trans hfn)).symm
      refine ⟨card_l, fun j t ht => ?_⟩
      rw [Tryz.params3] at ht
      obtain rfl : t = 22 := by simpa using Array.mem_of_getElem? ht
      exact card_s)
    card_g
#print axioms stores_card
end Go.Proofs.YtgjjjdccbpjnfaaGreatDoor
