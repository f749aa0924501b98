/-
  The law of returns holds at every input: of a mail to three, of whom the other host takes some, refuses some for good, and puts some off, again and again, each leaves once; who is refused, or is too old, is told to the sender in a return, nobody twice.
  Conditions: the row's own (the form's reach; the listed tables of Go's library start as the program's text and the library lay them: the card ties them; the pruned copy of the project).
-/
import Derived.Test.YtofpegbpgkkgkaaGreatDoorS00
import Derived.Test.YtofpegbpgkkgkaaGreatDoorS26
import Derived.Test.YtofpegbpgkkgkaaGreatDoorS28
import Derived.Test.YtofpegbpgkkgkaaGreatDoorS11
import Derived.Test.YtofpegbpgkkgkaaGreatDoorS03
import Derived.Test.YtofpegbpgkkgkaaGreatDoorS35
import Derived.Test.YtofpegbpgkkgkaaGreatDoorS20
import Derived.Test.YtofpegbpgkkgkaaGreatDoorS31
import Derived.Test.YtofpegbpgkkgkaaGreatDoorS14
import Derived.Test.YtofpegbpgkkgkaaGreatDoorS24
import Derived.Test.YtofpegbpgkkgkaaGreatDoorS37
import Derived.Test.YtofpegbpgkkgkaaGreatDoorS07
import Derived.Test.YtofpegbpgkkgkaaGreatDoorS40
import Derived.Test.YtofpegbpgkkgkaaGreatDoorS13
import Derived.Test.YtofpegbpgkkgkaaGreatDoorS30
import Derived.Test.YtofpegbpgkkgkaaGreatDoorRows
import Derived.Test.YtofpegbpgkkgkaaGreatDoorTie
import Derived.Test.YtofpegbpgkkgkaaGreatDoorCards
import Derived.Test.YtofpegbpgkkgkaaGreatDoorProg
import Derived.WalkKit
import Derived.WalkSpells
import Derived.WalkLawsBesides
import Derived.Lib.IndexMore
import Derived.Lib.IndexLaws
import Derived.Lib.IndexAny
import Derived.Lib.Split
import Derived.Lib.SplitLaws
import Derived.Lib.Case
import Derived.Shelf.Strings.Builder1
import Derived.Shelf.Strings.Builder2
import Derived.Shelf.Strings.OnBuilder
import Derived.Shelf.Small.Utf8
import Derived.Shelf.Small.Bits
import Derived.Shelf.Small.Strs
import Derived.Shelf.Small.Wraps
import Derived.Shelf.Strings.BuilderF
import Derived.Shelf.Strings.BuilderK
import Derived.Shelf.Strconv.Atoi
import Derived.Shelf.Strconv.Itoa0
import Derived.Shelf.Strconv.Itoa1
import Derived.Shelf.LaysM
import Derived.Shelf.Strconv.Itoa2
import Derived.Shelf.Strconv.Itoa3
import Derived.Shelf.Strconv.Clone
import Derived.Shelf.Strings.Search1
import Derived.Shelf.Strings.Search2
import Derived.Shelf.Strings.Search3
import Derived.Shelf.Strings.Cut
import Derived.Shelf.Strings.Count
import Derived.Shelf.Strings.Shaped
import Derived.Shelf.Strings.Prefix
import Derived.Shelf.Strings.Split
import Derived.Shelf.Strings.Fold
import Derived.Shelf.Strings.SplitShaped
import Derived.Shelf.Unicode.Latin
import Derived.Shelf.Unicode.DecodeSlow
import Derived.Shelf.Unicode.DecodeAny
import Derived.Shelf.Unicode.CaseLookup
import Derived.Shelf.Unicode.CaseConvert
import Derived.Shelf.Unicode.CaseTo
import Derived.Shelf.Unicode.CaseLaid
import Derived.Shelf.Bytes.Small
import Derived.Lib.Strings
import Derived.Lib.IndexBytes
import Derived.Lib.Hide
import Derived.Laws.BitsAllLaws
import Derived.Deep.QuietTactic
import Derived.BigQuiet
import Derived.Deep.RegionWith
import Derived.Laws.CopyRow
import Derived.Laws.MakeOwn
import Derived.Deep.SlicePairs
import Derived.SizedLaws
import Derived.Test.YtofpegbpgkkgkaaGreatDoorChecked
import Derived.ProofKit
import Derived.OpenShut
import Derived.LaidMore
import Derived.Lay
import Derived.HandedShaped
import Derived.Shelf.Vars
import Derived.RowKit
import Derived.Conc.LoneCalls
import Derived.KernelRfl
import Derived.Laws.BitsLemmas
import Derived.Deep.AppendLies
import Derived.Defers
import Derived.Maps.AppendAt
import Derived.Lib.SliceRun
import Derived.Deep.RegionLaw
import Derived.Laws.IdiomStrings
import Derived.Lib.ConvBytes
import Derived.Lib.UnsafeStr
import Derived.Deep.RegionHeld3
import Derived.OwnWalk
import Derived.BigRegion
import Derived.Deep.Onto
import Derived.Maps.OwnSet
import Derived.WalkArith
import Derived.Lib.LaidTab
import Derived.WalkSmall
import Derived.Lib.FrozenHead
import Derived.Lib.SlBytesConst
import Derived.Shelf.Spec.BytesIndexFunc
import Derived.Lib.DecodeN
import Derived.Conc.LoneSelect
import Derived.Conc.SmallLaws
import Derived.Maps.RangeRun
import Derived.Shelf.SlIterI.Nil
import Derived.Shelf.SortM.Plain
import Derived.Shelf.SortM.SortNone
import Derived.Orders
import Derived.Sort.OwnSortedInts
import Derived.Lib.Join
import Derived.Lib.LaidU8
import Derived.Laws.OwnMore
import Derived.Carry
import Derived.SevenTiedAt
import Derived.Stop.Joined
namespace Go.Proofs.YtofpegbpgkkgkaaGreatDoor
set_option maxHeartbeats 8000000
set_option maxRecDepth 1000000
theorem LQ:Tryz.prog.funcNamed Rows.returnedRow.func=some 6:=by kernel_rfl
theorem Mj:Rows.ReturnedSaid:=
 OpenClaim.holds_of_wide 6 Tryz.f6 rfl rfl rfl rfl rfl rfl rfl ⟨rfl,rfl,rfl,rfl,rfl⟩ rfl rfl rfl rfl rfl LQ Tryz.func6 (by kernel_rfl)
  (of_decide_eq_true (by kernel_rfl)) (by unfold Func.isWrapper;first | (rw [if_pos (by decide+kernel)];kernel_rfl) | (rw [if_neg (by decide+kernel)];exact ⟨rfl,rfl⟩))
  (fun c a H b _=>Ma c a H b)
theorem returned_card:Rows.ReturnedCardSaid:=
 Claim7.holds_tied_plain_at .later [] Rows.returnedCard.laidKinds true Rows.returnedCard.stood.harness Rows.returnedCard.stood.looks Mj (fun _ h=>by cases h) (by kernel_rfl) (fun _ h=>by cases h) returned_row_tie rfl ⟨rfl,rfl⟩ (by kernel_rfl) (by kernel_rfl)
  (fun f d e b=>by
   obtain rfl:f=6:=Option.some.inj (LQ.symm.trans e) |>.symm;obtain rfl:d=Tryz.f6:=(Option.some.inj (Tryz.func6.symm.trans b)).symm
   exact ⟨by kernel_rfl,fun j t c=>by
    rw [Tryz.params6] at c;have g:t∈[28,3]:=by simpa using Array.mem_of_getElem? c
    have a:([28,3].all fun u=> !Tryz.prog.wantsStandIn u)=true:=by kernel_rfl
    exact (show Tryz.prog.wantsStandIn t=false by simpa using List.all_eq_true.1 a t g)⟩)
  (by kernel_rfl)
#print axioms returned_card
end Go.Proofs.YtofpegbpgkkgkaaGreatDoor
