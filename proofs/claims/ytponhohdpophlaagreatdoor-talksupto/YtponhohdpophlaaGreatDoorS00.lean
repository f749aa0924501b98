import Derived.Lib.Hide
import Derived.RowKit
import Derived.Lib.Builder
import Derived.Laws.Rows
import Derived.Below
import Derived.Laws.AppendOwn
import Derived.Laws.Strings
import Derived.Tactics
import Derived.Test.YtponhohdpophlaaGreatDoorChecked
namespace Go.Proofs.YtponhohdpophlaaGreatDoor
open Go.RowKit
theorem K{p:Prop}(h:p):RowKit.Hid p:=h
theorem QE{a:Type}(x:a):∃y,x=y:=⟨_,rfl⟩
abbrev QF:=List UInt8
abbrev QI:=World
abbrev QJ:=Value
abbrev QK:=Option Addr
abbrev QL:=ByteArray
theorem QG{w a:World}{o:Obj}(h:w.alloc o=a):Below w.heap.size w a:=by rw [<-h];exact (Below.refl _ _).alloc (Nat.le_refl _) _
theorem QH{w a:World}{o:Obj}(h:w.alloc o=a):a.heap[w.heap.size]? =some o:=by rw [<-h];exact heap_alloc_new w _
theorem QM{w:World}{b:Nat}{T:TypeId}{fr:Nat×Nat}{x0 x1:Value}(h:w.heap[b]? =some (.cells #[x0,x1] T fr)):w.cell? ⟨b,0,none⟩=some x0/\w.cell? ⟨b,1,none⟩=some x1:=⟨Lib.cell_of_heap h _,Lib.cell_of_heap h _⟩
theorem QN{w:World}{b:Nat}{T:TypeId}{fr:Nat×Nat}{x0 x1 x2 x3:Value}(h:w.heap[b]? =some (.cells #[x0,x1,x2,x3] T fr)):w.cell? ⟨b,0,none⟩=some x0/\w.cell? ⟨b,1,none⟩=some x1/\w.cell? ⟨b,2,none⟩=some x2/\w.cell? ⟨b,3,none⟩=some x3:=⟨Lib.cell_of_heap h _,Lib.cell_of_heap h _,Lib.cell_of_heap h _,Lib.cell_of_heap h _⟩
theorem QO{w:World}{b:Nat}{T:TypeId}{fr:Nat×Nat}{x0 x1 x2 x3 x4:Value}(h:w.heap[b]? =some (.cells #[x0,x1,x2,x3,x4] T fr)):w.cell? ⟨b,0,none⟩=some x0/\w.cell? ⟨b,1,none⟩=some x1/\w.cell? ⟨b,2,none⟩=some x2/\w.cell? ⟨b,3,none⟩=some x3/\w.cell? ⟨b,4,none⟩=some x4:=⟨Lib.cell_of_heap h _,Lib.cell_of_heap h _,Lib.cell_of_heap h _,Lib.cell_of_heap h _,Lib.cell_of_heap h _⟩
theorem QP{w:World}{b:Nat}{T:TypeId}{fr:Nat×Nat}{x0 x1 x2 x3 x4 x5 x6 x7 x8:Value}(h:w.heap[b]? =some (.cells #[x0,x1,x2,x3,x4,x5,x6,x7,x8] T fr)):w.cell? ⟨b,0,none⟩=some x0/\w.cell? ⟨b,1,none⟩=some x1/\w.cell? ⟨b,2,none⟩=some x2/\w.cell? ⟨b,3,none⟩=some x3/\w.cell? ⟨b,4,none⟩=some x4/\w.cell? ⟨b,5,none⟩=some x5/\w.cell? ⟨b,6,none⟩=some x6/\w.cell? ⟨b,7,none⟩=some x7/\w.cell? ⟨b,8,none⟩=some x8:=⟨Lib.cell_of_heap h _,Lib.cell_of_heap h _,Lib.cell_of_heap h _,Lib.cell_of_heap h _,Lib.cell_of_heap h _,Lib.cell_of_heap h _,Lib.cell_of_heap h _,Lib.cell_of_heap h _,Lib.cell_of_heap h _⟩
end Go.Proofs.YtponhohdpophlaaGreatDoor
