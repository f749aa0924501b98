import Derived.Test.YtofpegbpgkkgkaaGreatDoorS05
import Derived.Test.YtofpegbpgkkgkaaGreatDoorS03
namespace Go.Proofs.YtofpegbpgkkgkaaGreatDoor
set_option maxHeartbeats 8000000
set_option maxRecDepth 1000000
open Go.RowKit
section
variable {P:Program}
theorem yz (W:World) (t g e:TypeId) (i:TypeInfo) (f:P.underlying t=some (.slice e)) (d:P.info? e=some i) (b:Nat) (a:Option Addr) (c:Nat):
  (Builtin.append_ #[t,t] g #[.slice (some ⟨b,0,none⟩) 0 0,.slice a 0 c]).run P W= .ok (.slice (some ⟨b,0,none⟩) 0 0) W:=by
 cases a <;> simp [Builtin.append_,run_underlying f,sizeOf,typeInfo,d,Builtin.lenOf,Builtin.firstCells,loadCells,loadCellsFrom,storeCells]
theorem jY (W:World) (t E e:TypeId) (z:Value) (f d:Nat) (J:P.underlying t=some (.slice e)) (p:(P.info? e).map (fun i=>(i.zero,i.size,i.bytes))=some (some z,f,d)) (D:z.cells.size=f) (C:0 < f) (b:Nat) (G:W.heap[b]? =some (.cells #[] e (0,0)))
  (v:Value) (n:Nat) (o:List Value) (h:aZ W v n f o) (L:∀u∈o,u.oneCell'=true) (U:n≤maxLen) (w:n * d≤140737488355328):
  ∃g q m,(Builtin.append_ #[t,t] E #[.slice (some ⟨b,0,none⟩) 0 0,v]).run P W= .ok (.slice (some ⟨g,0,none⟩) n q) m∧m.ownsRow b e f (.slice (some ⟨g,0,none⟩) n q) n o∧W.grownBy m (some b)∧(g=b∨g=W.heap.size):=by
 obtain ⟨i,H,T,R,S⟩:=info_parts p;have F:W.ownsRow b e f (.slice (some ⟨b,0,none⟩) 0 0) 0 []:=⟨by simp,.inr ⟨b,0,#[],rfl,Nat.le_refl _,G,Nat.le_refl _,by simp,by simp,by simp⟩⟩
 obtain ⟨A,⟨rfl,a,k,rfl⟩ | ⟨r,l,k,rfl,N,M⟩⟩:=h
 ·have x:o=[]:=List.length_eq_zero_iff.1 (by simpa using A);subst x;exact ⟨b,0,W,yz W t E e i J H b a k,F,⟨rfl,rfl,rfl,Nat.le_refl _,fun _ _ _=>rfl⟩,.inl rfl⟩
 ·obtain ⟨V,m,Q,B,O,_,c⟩:=run_append_own_at W b t E e i z f d J H T R S D C (.slice (some ⟨b,0,none⟩) 0 0) 0 [] F ⟨r,l,none⟩ n k o A (fun j u I=>by
   have y:j < n * f:=by
    rw [←A];exact (List.getElem?_eq_some_iff.1 I).1
   rw [show (⟨r,l,none⟩:Addr).add j=⟨r,l+j,none⟩ by simp [Addr.add],M j y,I]) L (by omega) (by simpa using w) (by have:=(Array.getElem?_eq_some_iff.1 G).1;omega)
  rw [Nat.zero_add,List.nil_append] at B
  rcases B.2 with ⟨s,_⟩ | ⟨g,q,K,s,_⟩
  ·rw [s] at c
   rcases c with c | c <;> cases c
  ·subst s;refine ⟨g,q,m,Q,B,O,?_⟩
   rcases c with c | c
   ·injection c with c;exact .inl c
   ·injection c with c;exact .inr c
theorem bH {w:World} {c:Array Oper} {b:List Oper} {o:Oper} {a:Act} {Q:Exit→Act→World→Prop} (d:o.guard=none) (s x:Operand) (t:TypeId)
  (g:o.op= .call {callee:= .builtin .append,args:=#[s,x],argTypes:=#[t,t]}) (v u r:Value) (e:World) (j:a.eval s=v) (k:a.eval x=u) (i:(Builtin.append_ #[t,t] o.type #[v,u]).run P w= .ok r e) (h:wpList P c Q b (a.put o.dst r) e):wpList P c Q (o::b) a w:=
 wpList_plain d fun K f=>by
  unfold Oper.wp execOp;simp only [g,resolve,invoke,builtin,Sem.run_bind,Sem.run_pure,Result.andThen_ok,List.map_toArray,List.map_cons,List.map_nil,j,k,i];exact f _ _ h
end
theorem wO (sb b k:Nat) (C:Array Value) (c:List UInt8) (a:Int) (w:World) (h:bP w sb b C []) (j:C[8]? =some (.pointer (some ⟨k,0,none⟩))):
  Calls Tryz.prog 147 #[.pointer (some ⟨sb,0,none⟩),.string (bs c),.int .i64 a] w fun e f=>e= .returned (.tuple #[])∧bP f sb b C [[53,48,51,32,102,105,114,115,116,13,10]]∧aH b w f:=by
 have g:=Lib.hid (h.tell (by simp) [53,48,51,32,102,105,114,115,116] (by decide));have l:=(h.cell 8).trans j;clear h;go_enter Tryz.func147,Tryz.ntmps147;go_wp2_with fail
 refine g.out.mono ?_;rintro e m ⟨rfl,i,d⟩;go_wp2_with fail
 refine bodyPost_end (results_none rfl _ _ _) rfl ?_;exact ⟨rfl,i,d⟩
theorem wP (sb b f:Nat) (C:Array Value) (c:List UInt8) (a S:Int) (w:World) (h:bP w sb b C []) (l:C[8]? =some (.pointer none)) (j:C[0]? =some (.pointer (some ⟨f,0,none⟩))) (p:w.cell? ⟨f,5,none⟩=some (.int .i64 S)) (m:S < a):
  Calls Tryz.prog 147 #[.pointer (some ⟨sb,0,none⟩),.string (bs c),.int .i64 a] w fun e g=>e= .returned (.tuple #[])∧bP g sb b C [[53,53,50,32,115,105,122,101,13,10]]∧aH b w g:=by
 have i:=Lib.hid (h.tell (by simp) [53,53,50,32,115,105,122,101] (by decide));have o:=(h.cell 8).trans l;have n:=(h.cell 0).trans j;clear h;go_enter Tryz.func147,Tryz.ntmps147;go_wp2_with fail
 refine i.out.mono ?_;rintro e q ⟨rfl,k,d⟩;go_wp2_with fail
 refine bodyPost_end (results_none rfl _ _ _) rfl ?_;exact ⟨rfl,k,d⟩
theorem yG (sb p D:Nat) (C:Array Value) (b:List UInt8) (f S:Int) (w:World) (h:bP w sb p C []) (B:C[8]? =some (.pointer none)) (F:C[0]? =some (.pointer (some ⟨D,0,none⟩))) (R:w.cell? ⟨D,5,none⟩=some (.int .i64 S)) (K:¬S < f):
  Calls Tryz.prog 147 #[.pointer (some ⟨sb,0,none⟩),.string (bs b),.int .i64 f] w fun e l=>e= .returned (.tuple #[])∧bP l sb p (C.setIfInBounds 8 (.pointer (some ⟨w.heap.size,0,none⟩))) [[50,53,48,32,111,107,13,10]]∧l.heap[w.heap.size]? =some (.cells #[.string (bs b),.slice none 0 0,.pointer none] 216 (0,0))∧(∀k,k < w.heap.size→k≠sb→k≠p→l.heap[k]? =w.heap[k]?)∧dI w l∧w.heap.size≤l.heap.size:=by
 have O:=(h.cell 8).trans B;have N:=(h.cell 0).trans F;have A:sb < w.heap.size:=(Array.getElem?_eq_some_iff.1 h.blk).1;have M:∀o:Obj,(w.alloc o).cell? ⟨sb,8,none⟩=some (.pointer none):=fun o=>by rw [Lib.cell_of_heap ((((Below.refl w.heap.size w).alloc (Nat.le_refl _) o).block sb A).trans h.blk)];exact B
 have P:∀o:Obj,(w.alloc o).frozen? ⟨sb,8,none⟩=false:=fun o=>Lib.frozen_of_heap ((((Below.refl w.heap.size w).alloc (Nat.le_refl _) o).block sb A).trans h.blk) 8;have m:aH sb w (w.setCell ⟨sb,8,none⟩ (.pointer (some ⟨w.heap.size,0,none⟩))):=(aH.refl _ _).setCell _;have t:=h.set 8 (by decide) (.pointer (some ⟨w.heap.size,0,none⟩));obtain ⟨i,j⟩:∃i:World,w.setCell ⟨sb,8,none⟩ (.pointer (some ⟨w.heap.size,0,none⟩))=i:=⟨_,rfl⟩;rw [j] at m t;obtain ⟨n,d⟩:∃n:World,i.alloc (.cells #[.string (bs b),.slice none 0 0,.pointer none] 216)=n:=⟨_,rfl⟩;have q:Below i.heap.size i n:=by rw [←d];exact (Below.refl _ _).alloc (Nat.le_refl _) _
 have z:n.heap[w.heap.size]? =some (.cells #[.string (bs b),.slice none 0 0,.pointer none] 216 (0,0)):=by rw [←d,←m.1];exact heap_alloc_new i _
 have E:=Lib.hid ((t.below q).tell (by simp) [50,53,48,32,111,107] (by decide));have y:p≠w.heap.size:=by obtain ⟨s,r,J⟩:=h.chan;have:=(Array.getElem?_eq_some_iff.1 J).1;omega
 have g:=Lib.hid m;have a:=Lib.hid q;have x:=Lib.hid z;have u:=Lib.hid j;have v:=Lib.hid d;clear h t q z j d m;go_enter Tryz.func147,Tryz.ntmps147;go_wp2_with fail
 rw [u.out,v.out];refine E.out.mono ?_;rintro e T ⟨rfl,H,c⟩;go_wp2_with fail
 refine bodyPost_end (results_none rfl _ _ _) rfl ?_;have L:i.heap.size=w.heap.size:=g.out.1;refine ⟨rfl,H,(c.2 _ (Ne.symm y)).trans x.out,fun k Q G I=>(c.2 k I).trans ((a.out.block k (by omega)).trans (g.out.2 k G)),(g.out.3.trans ⟨a.out.1,a.out.2,a.out.3⟩).trans c.3,?_⟩;rw [c.1];have:=a.out.size;omega
end Go.Proofs.YtofpegbpgkkgkaaGreatDoor
