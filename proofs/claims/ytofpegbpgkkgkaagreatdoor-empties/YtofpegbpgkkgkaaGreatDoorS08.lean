import Derived.Test.YtofpegbpgkkgkaaGreatDoorS04
import Derived.ProofKit
import Derived.OpenShut
import Derived.LaidMore
import Derived.Lay
import Derived.HandedShaped
import Derived.Shelf.Vars
import Derived.Test.YtofpegbpgkkgkaaGreatDoorS01
import Derived.Lib.LaidTab
import Derived.WalkSmall
import Derived.Conc.LoneSelect
namespace Go.Proofs.YtofpegbpgkkgkaaGreatDoor
set_option maxHeartbeats 8000000
set_option maxRecDepth 1000000
open Go.RowKit
theorem uk:(Tryz.prog.info? 9).map (fun i=>(i.zero,i.size,i.bytes))=some (some (.string ⟨#[]⟩),1,16):=by kernel_rfl
theorem G3:(Tryz.prog.info? 77).map (fun i=>(i.zero,i.size,i.bytes))=some (some (.agg #[.int .i64 0,.int .i64 0]),2,16):=by kernel_rfl
theorem E9:(Tryz.prog.info? 79).map (fun i=>(i.zero,i.size,i.bytes))=some (some (.agg #[.string ⟨#[]⟩,.string ⟨#[]⟩]),2,32):=by kernel_rfl
theorem GZ:(Tryz.prog.info? 3).map (fun i=>(i.zero,i.size,i.bytes))=some (some (.int .i64 0),1,8):=by kernel_rfl
theorem Ie (l:List ByteArray):∀u∈dK l,u.oneCell'=true:=by
 intro u a;obtain ⟨x,_,rfl⟩:=List.mem_map.1 a;rfl
theorem Ia (l:List Int):∀u∈ib l,u.oneCell'=true:=by
 intro u a;obtain ⟨x,_,rfl⟩:=List.mem_map.1 a;rfl
theorem Ib (l:List (Int×Int)):∀u∈ik l,u.oneCell'=true:=by
 intro u a;obtain ⟨x,_,h⟩:=List.mem_flatMap.1 a
 rcases List.mem_cons.1 h with rfl | h
 ·rfl
 ·rcases List.mem_cons.1 h with rfl | h
  ·rfl
  ·cases h
theorem FA (l:List (ByteArray×ByteArray)):∀u∈cH l,u.oneCell'=true:=by
 intro u a;obtain ⟨x,_,h⟩:=List.mem_flatMap.1 a
 rcases List.mem_cons.1 h with rfl | h
 ·rfl
 ·rcases List.mem_cons.1 h with rfl | h
  ·rfl
  ·cases h
open Go.ChangeShapes Go.WideShapes Go.ChangeAt Go.RowKit
theorem own:ownKnob Tryz.prog.godebug=none:=by kernel_rfl
theorem pe {H:Type} {l:TypeId×Value→H} {a:Assume} {C:Checked} {K:Os} {f:FuncId} {n:Func} {s:ChangeSpec} {k:List PathCond} {c p h o:Bool} {X:World→Array Value→Prop}
  (O:∀(w L:World) (b:Array Value),w.heap=L.heap→X w b→X L b)
  (own:ownKnob C.prog.godebug=none) (q:K.Started) (u:C.prog.inits.idxOf? f=none) (F:C.prog.funcs[f]? =some n)
  (r:∃(w:World) (d:Tape) (i:Input),w.os=K∧(w.forCall d i).Shaped C.prog∧i.vars=[]∧Input.okWide C.prog (w.forCall d i) .any w.heap.size f i∧
   ((s.pre l C.prog n k c (w.forCall d i).memory i.args∧X (w.forCall d i).memory i.args)∧sizedMet l C.prog n (OpenSpec.ofChange s) c (w.forCall d i).memory i.args)∧a.holds C.prog (lone (Frame.enter C.prog f i.args .normal) [] (w.forCall d i)))
  (m:∀(W:World) (x:Nat) (b:Array Value) (y z:List (DataW H)) (g:List MemPlace),
   (∀(j:Nat) t v,n.params[j]? =some t→b[j]? =some v→Value.okWide C.prog W .any x t v)→
   DataW.Whole l C.prog n.params.toList s.vars c W b.toList y z g→
   k.all (PathCond.test C.prog ⟨n.params.toList,y,s.plain.varTypes C.prog,z⟩)=true→
   (DataW.weightsEach C.prog (n.params.toList++s.plain.varTypes C.prog) (y++z)).all (·≤reachBytes)=true→X W b→
   W.ShapedOpen C.prog→
   Calls C.prog f b W fun e M=>∃v,e= .returned v∧s.post l C.prog n c p h o W b v M):
  ReturnsInHanded a C K f .any (fun w b=>(s.pre l C.prog n k c w b∧X w b)∧sizedMet l C.prog n (OpenSpec.ofChange s) c w b) (s.post l C.prog n c p h o):=by
 refine returnsInHanded_of_calls own q u r ?_;intro w d i _ I _ G B _;obtain ⟨_,_,_,E,A,_,_,_,_,D⟩:=G;have e:E=n:=Option.some.inj (A.symm.trans F);subst e;obtain ⟨⟨⟨y,z,g,N,P⟩,Q⟩,R⟩:=B;have J:=DataW.Whole.of_heap (w':=w.forCall d i) (by rfl) N;refine (m (w.forCall d i) w.heap.size i.args y z g D J P (R.weights N) (O _ _ _ (by rfl) Q) I).mono fun e M ⟨v,he,hp⟩=>?_;subst he;exact ChangeSpec.post_blind hp
theorem Bh {w:World} (h:w.ShapedOpen Tryz.prog):∃m,w.cell? ⟨0,0,none⟩=some (.int .i64 m):=
 cell_of_shapedOpen_int (zero:=#[.int .i64 0]) (t:=3) h (of_decide_eq_true (by kernel_rfl)) (by kernel_rfl) rfl (by kernel_rfl) (by kernel_rfl) Tryz.underlying3
theorem bT.below {w e:World} {sb a:Nat} {C:Array Value} {d:List (List UInt8)} (h:bT w sb a C d) (b:Below w.heap.size w e):bT e sb a C d:=by
 obtain ⟨s,r,c⟩:=h.chan;exact ⟨(b.block sb (Array.getElem?_eq_some_iff.1 h.blk).1).trans h.blk,h.size,h.told,s,r,(b.block a (Array.getElem?_eq_some_iff.1 c).1).trans c⟩
theorem bT.same {w e:World} {sb a b:Nat} {C:Array Value} {d:List (List UInt8)} (h:bT w sb a C d) (c:aL b w e) (f:sb≠b) (g:a≠b):bT e sb a C d:=by
 obtain ⟨s,r,i⟩:=h.chan;exact ⟨(c.2 sb f).trans h.blk,h.size,h.told,s,r,(c.2 a g).trans i⟩
theorem wz (sb p a:Nat) (C:Array Value) (F G K:Value) (w:World) (h:bT w sb p C []) (P:C[8]? =some (.pointer (some ⟨a,0,none⟩))) (j:w.heap[a]? =some (.cells #[F,G,K] 216 (0,0))):
  Calls Tryz.prog 149 #[.pointer (some ⟨sb,0,none⟩)] w fun e m=>e= .returned (.tuple #[])∧bT m sb p C [[51,53,52,32,103,111,13,10]]∧m.heap[a]? =some (.cells #[F,G,.pointer (some ⟨w.heap.size,0,none⟩)] 216 (0,0))∧m.heap[w.heap.size]? =some (.cells #[.slice none 0 0,.bool false,.bool false] 253 (0,0))∧(∀k,k < w.heap.size→k≠a→k≠p→m.heap[k]? =w.heap[k]?)∧dU w m∧w.heap.size≤m.heap.size:=by
 have S:=(h.cell 8).trans P;have D:a < w.heap.size:=(Array.getElem?_eq_some_iff.1 j).1;have R:∀o:Obj,(w.alloc o).cell? ⟨a,2,none⟩=some K:=fun o=>by rw [Lib.cell_of_heap ((((Below.refl w.heap.size w).alloc (Nat.le_refl _) o).block a D).trans j)];rfl
 have g2:∀o:Obj,(w.alloc o).frozen? ⟨a,2,none⟩=false:=fun o=>Lib.frozen_of_heap ((((Below.refl w.heap.size w).alloc (Nat.le_refl _) o).block a D).trans j) 2;have E:sb≠a:=fun e=>by have:=h.blk;rw [e,j] at this;simp at this
 have q:p≠a:=fun e=>by obtain ⟨s,r,u⟩:=h.chan;rw [e,j] at u;simp at u
 have l:aL a w (w.setCell ⟨a,2,none⟩ (.pointer (some ⟨w.heap.size,0,none⟩))):=(aL.refl _ _).setCell _;have B:=heap_setCell_same w a 2 _ _ (.pointer (some ⟨w.heap.size,0,none⟩)) j;obtain ⟨g,i⟩:∃g:World,w.setCell ⟨a,2,none⟩ (.pointer (some ⟨w.heap.size,0,none⟩))=g:=⟨_,rfl⟩;rw [i] at l B;obtain ⟨n,d⟩:∃n:World,g.alloc (.cells #[.slice none 0 0,.bool false,.bool false] 253)=n:=⟨_,rfl⟩;have t:Below g.heap.size g n:=by rw [←d];exact (Below.refl _ _).alloc (Nat.le_refl _) _
 have I:n.heap[w.heap.size]? =some (.cells #[.slice none 0 0,.bool false,.bool false] 253 (0,0)):=by rw [←d,←l.1];exact heap_alloc_new g _
 have J:n.heap[a]? =some (.cells #[F,G,.pointer (some ⟨w.heap.size,0,none⟩)] 216 (0,0)):=(t.block a (by rw [l.1];exact D)).trans B;have H:=(h.same l E q).below t;have L:=Lib.hid (H.tell (by simp) [51,53,52,32,103,111] (by decide));have A:p≠w.heap.size:=by obtain ⟨s,r,u⟩:=h.chan;have:=(Array.getElem?_eq_some_iff.1 u).1;omega
 have f:=Lib.hid l;have b:=Lib.hid t;have v:=Lib.hid J;have z:=Lib.hid I;have x:=Lib.hid i;have y:=Lib.hid d;clear h H B t I i d l J j;go_enter Tryz.func149,Tryz.ntmps149;go_wp2_with fail
 rw [x.out,y.out];refine L.out.mono ?_;rintro e U ⟨rfl,N,c⟩;go_wp2_with fail
 refine bodyPost_end (results_none rfl _ _ _) rfl ?_;have Q:g.heap.size=w.heap.size:=f.out.1;refine ⟨rfl,N,(c.2 a (Ne.symm q)).trans v.out,(c.2 _ (Ne.symm A)).trans z.out,fun k T M O=>(c.2 k O).trans ((b.out.block k (by omega)).trans (f.out.2 k M)),(f.out.3.trans ⟨b.out.1,b.out.2,b.out.3⟩).trans c.3,?_⟩;rw [c.1];have:=b.out.size;omega
section
variable {P:Program}
theorem zY (W:World) (t g e:TypeId) (i:TypeInfo) (f:P.underlying t=some (.slice e)) (d:P.info? e=some i) (b:Nat) (a:Option Addr) (c:Nat):
  (Builtin.append_ #[t,t] g #[.slice (some ⟨b,0,none⟩) 0 0,.slice a 0 c]).run P W= .ok (.slice (some ⟨b,0,none⟩) 0 0) W:=by
 cases a <;> simp [Builtin.append_,run_underlying f,sizeOf,typeInfo,d,Builtin.lenOf,Builtin.firstCells,loadCells,loadCellsFrom,storeCells]
theorem kr (W:World) (t E e:TypeId) (z:Value) (f d:Nat) (J:P.underlying t=some (.slice e)) (p:(P.info? e).map (fun i=>(i.zero,i.size,i.bytes))=some (some z,f,d)) (D:z.cells.size=f) (C:0 < f) (b:Nat) (G:W.heap[b]? =some (.cells #[] e (0,0)))
  (v:Value) (n:Nat) (o:List Value) (h:bg W v n f o) (L:∀u∈o,u.oneCell'=true) (U:n≤maxLen) (w:n * d≤140737488355328):
  ∃g q m,(Builtin.append_ #[t,t] E #[.slice (some ⟨b,0,none⟩) 0 0,v]).run P W= .ok (.slice (some ⟨g,0,none⟩) n q) m∧m.ownsRow b e f (.slice (some ⟨g,0,none⟩) n q) n o∧W.grownBy m (some b)∧(g=b∨g=W.heap.size):=by
 obtain ⟨i,H,T,R,S⟩:=info_parts p;have F:W.ownsRow b e f (.slice (some ⟨b,0,none⟩) 0 0) 0 []:=⟨by simp,.inr ⟨b,0,#[],rfl,Nat.le_refl _,G,Nat.le_refl _,by simp,by simp,by simp⟩⟩
 obtain ⟨A,⟨rfl,a,k,rfl⟩ | ⟨r,l,k,rfl,N,M⟩⟩:=h
 ·have x:o=[]:=List.length_eq_zero_iff.1 (by simpa using A);subst x;exact ⟨b,0,W,zY W t E e i J H b a k,F,⟨rfl,rfl,rfl,Nat.le_refl _,fun _ _ _=>rfl⟩,.inl rfl⟩
 ·obtain ⟨V,m,Q,B,O,_,c⟩:=run_append_own_at W b t E e i z f d J H T R S D C (.slice (some ⟨b,0,none⟩) 0 0) 0 [] F ⟨r,l,none⟩ n k o A (fun j u I=>by
   have y:j < n * f:=by
    rw [←A];exact (List.getElem?_eq_some_iff.1 I).1
   rw [show (⟨r,l,none⟩:Addr).add j=⟨r,l+j,none⟩ by simp [Addr.add],M j y,I]) L (by omega) (by simpa using w) (by have:=(Array.getElem?_eq_some_iff.1 G).1;omega)
  rw [Nat.zero_add,List.nil_append] at B
  rcases B.2 with ⟨s,_⟩ | ⟨g,q,K,s,_⟩
  ·rw [s] at c
   rcases c with c | c <;> cases c
  ·subst s;refine ⟨g,q,m,Q,B,O,?_⟩
   rcases c with c | c
   ·injection c with c;exact .inl c
   ·injection c with c;exact .inr c
theorem bB {w:World} {c:Array Oper} {b:List Oper} {o:Oper} {a:Act} {Q:Exit→Act→World→Prop} (d:o.guard=none) (s x:Operand) (t:TypeId)
  (g:o.op= .call {callee:= .builtin .append,args:=#[s,x],argTypes:=#[t,t]}) (v u r:Value) (e:World) (j:a.eval s=v) (k:a.eval x=u) (i:(Builtin.append_ #[t,t] o.type #[v,u]).run P w= .ok r e) (h:wpList P c Q b (a.put o.dst r) e):wpList P c Q (o::b) a w:=
 wpList_plain d fun K f=>by
  unfold Oper.wp execOp;simp only [g,resolve,invoke,builtin,Sem.run_bind,Sem.run_pure,Result.andThen_ok,List.map_toArray,List.map_cons,List.map_nil,j,k,i];exact f _ _ h
end
theorem Cq (l:List ByteArray) (v:Value) (w:World) (h:bg w v l.length 1 (dK l)) (H:l.length≤5):
  Calls Tryz.prog 70 #[v] w fun e z=>∃a c,e= .returned (.slice a l.length c)∧z.ownsRow w.heap.size 9 1 (.slice a l.length c) l.length (dK l)∧Below w.heap.size w z:=by
 obtain ⟨a,f,E⟩:=aE h;subst E
 cases a with
 | none=>
  have i:l.length=0:=by
   rcases h.2 with ⟨i,_⟩ | ⟨b,F,q,e,_⟩
   ·exact i
   ·cases e
  have m:l=[]:=List.length_eq_zero_iff.1 i;subst m;clear h;have G:=fun (w:World) (a:Option Addr) (n c o d:Nat)=>Lib.run_eql_slice_nil (P:=Tryz.prog) w 25 _ a n c o d Tryz.underlying25;go_enter Tryz.func70,Tryz.ntmps70;go_wp2_with fail
  go_ret;exact ⟨none,0,rfl,World.ownsRow_nil _ _ _ _,Below.refl _ _⟩
 | some a=>
  have y:(w.alloc (.cells #[] 9)).heap[w.heap.size]? =some (.cells #[] 9 (0,0)):=heap_alloc_new w _;obtain ⟨g,D,p,x,u,s,j⟩:=kr (P:=Tryz.prog) (w.alloc (.cells #[] 9)) 25 25 9 (.string ⟨#[]⟩) 1 16 Tryz.underlying25 uk rfl (by decide) w.heap.size y (.slice (some a) l.length f) l.length (dK l) (h.below ((Below.refl _ _).alloc (Nat.le_refl _) _)) (Ie l) (by unfold maxLen;omega) (by omega);have r:Below w.heap.size w p:=((Below.refl w.heap.size w).alloc (Nat.le_refl _) _).grown s (by simp) (fun k t=>by injection t with t;omega);have C:=Lib.hid x;have B:=Lib.hid u;have A:=Lib.hid r;clear x u r s j y h;have G:=fun (w:World) (a:Option Addr) (n c o d:Nat)=>Lib.run_eql_slice_nil (P:=Tryz.prog) w 25 _ a n c o d Tryz.underlying25;go_enter Tryz.func70,Tryz.ntmps70
  go_wp2_with (first
   | (at_builtin;refine bB rfl _ _ 25 rfl _ _ (.slice (some ⟨g,0,none⟩) l.length D) p rfl rfl C.out ?_)
   | fail)
  go_ret;exact ⟨_,_,rfl,B.out,A.out⟩
theorem Cr (l:List (Int×Int)) (v:Value) (w:World) (h:bg w v l.length 2 (ik l)) (H:l.length≤5):
  Calls Tryz.prog 71 #[v] w fun e z=>∃a c,e= .returned (.slice a l.length c)∧z.ownsRow w.heap.size 77 2 (.slice a l.length c) l.length (ik l)∧Below w.heap.size w z:=by
 obtain ⟨a,f,E⟩:=aE h;subst E
 cases a with
 | none=>
  have i:l.length=0:=by
   rcases h.2 with ⟨i,_⟩ | ⟨b,F,q,e,_⟩
   ·exact i
   ·cases e
  have m:l=[]:=List.length_eq_zero_iff.1 i;subst m;clear h;have G:=fun (w:World) (a:Option Addr) (n c o d:Nat)=>Lib.run_eql_slice_nil (P:=Tryz.prog) w 26 _ a n c o d Tryz.underlying26;go_enter Tryz.func71,Tryz.ntmps71;go_wp2_with fail
  go_ret;exact ⟨none,0,rfl,World.ownsRow_nil _ _ _ _,Below.refl _ _⟩
 | some a=>
  have y:(w.alloc (.cells #[] 77)).heap[w.heap.size]? =some (.cells #[] 77 (0,0)):=heap_alloc_new w _;obtain ⟨g,D,p,x,u,s,j⟩:=kr (P:=Tryz.prog) (w.alloc (.cells #[] 77)) 26 26 77 (.agg #[.int .i64 0,.int .i64 0]) 2 16 Tryz.underlying26 G3 rfl (by decide) w.heap.size y (.slice (some a) l.length f) l.length (ik l) (h.below ((Below.refl _ _).alloc (Nat.le_refl _) _)) (Ib l) (by unfold maxLen;omega) (by omega);have r:Below w.heap.size w p:=((Below.refl w.heap.size w).alloc (Nat.le_refl _) _).grown s (by simp) (fun k t=>by injection t with t;omega);have C:=Lib.hid x;have B:=Lib.hid u;have A:=Lib.hid r;clear x u r s j y h;have G:=fun (w:World) (a:Option Addr) (n c o d:Nat)=>Lib.run_eql_slice_nil (P:=Tryz.prog) w 26 _ a n c o d Tryz.underlying26;go_enter Tryz.func71,Tryz.ntmps71
  go_wp2_with (first
   | (at_builtin;refine bB rfl _ _ 26 rfl _ _ (.slice (some ⟨g,0,none⟩) l.length D) p rfl rfl C.out ?_)
   | fail)
  go_ret;exact ⟨_,_,rfl,B.out,A.out⟩
theorem Ct (l:List (ByteArray×ByteArray)) (v:Value) (w:World) (h:bg w v l.length 2 (cH l)) (H:l.length≤5):
  Calls Tryz.prog 72 #[v] w fun e z=>∃a c,e= .returned (.slice a l.length c)∧z.ownsRow w.heap.size 79 2 (.slice a l.length c) l.length (cH l)∧Below w.heap.size w z:=by
 obtain ⟨a,f,E⟩:=aE h;subst E
 cases a with
 | none=>
  have i:l.length=0:=by
   rcases h.2 with ⟨i,_⟩ | ⟨b,F,q,e,_⟩
   ·exact i
   ·cases e
  have m:l=[]:=List.length_eq_zero_iff.1 i;subst m;clear h;have G:=fun (w:World) (a:Option Addr) (n c o d:Nat)=>Lib.run_eql_slice_nil (P:=Tryz.prog) w 27 _ a n c o d Tryz.underlying27;go_enter Tryz.func72,Tryz.ntmps72;go_wp2_with fail
  go_ret;exact ⟨none,0,rfl,World.ownsRow_nil _ _ _ _,Below.refl _ _⟩
 | some a=>
  have y:(w.alloc (.cells #[] 79)).heap[w.heap.size]? =some (.cells #[] 79 (0,0)):=heap_alloc_new w _;obtain ⟨g,D,p,x,u,s,j⟩:=kr (P:=Tryz.prog) (w.alloc (.cells #[] 79)) 27 27 79 (.agg #[.string ⟨#[]⟩,.string ⟨#[]⟩]) 2 32 Tryz.underlying27 E9 rfl (by decide) w.heap.size y (.slice (some a) l.length f) l.length (cH l) (h.below ((Below.refl _ _).alloc (Nat.le_refl _) _)) (FA l) (by unfold maxLen;omega) (by omega);have r:Below w.heap.size w p:=((Below.refl w.heap.size w).alloc (Nat.le_refl _) _).grown s (by simp) (fun k t=>by injection t with t;omega);have C:=Lib.hid x;have B:=Lib.hid u;have A:=Lib.hid r;clear x u r s j y h;have G:=fun (w:World) (a:Option Addr) (n c o d:Nat)=>Lib.run_eql_slice_nil (P:=Tryz.prog) w 27 _ a n c o d Tryz.underlying27;go_enter Tryz.func72,Tryz.ntmps72
  go_wp2_with (first
   | (at_builtin;refine bB rfl _ _ 27 rfl _ _ (.slice (some ⟨g,0,none⟩) l.length D) p rfl rfl C.out ?_)
   | fail)
  go_ret;exact ⟨_,_,rfl,B.out,A.out⟩
theorem Cu (l:List Int) (v:Value) (w:World) (h:bg w v l.length 1 (ib l)) (H:l.length≤5):
  Calls Tryz.prog 73 #[v] w fun e z=>∃a c,e= .returned (.slice a l.length c)∧z.ownsRow w.heap.size 3 1 (.slice a l.length c) l.length (ib l)∧Below w.heap.size w z:=by
 obtain ⟨a,f,E⟩:=aE h;subst E
 cases a with
 | none=>
  have i:l.length=0:=by
   rcases h.2 with ⟨i,_⟩ | ⟨b,F,q,e,_⟩
   ·exact i
   ·cases e
  have m:l=[]:=List.length_eq_zero_iff.1 i;subst m;clear h;have G:=fun (w:World) (a:Option Addr) (n c o d:Nat)=>Lib.run_eql_slice_nil (P:=Tryz.prog) w 28 _ a n c o d Tryz.underlying28;go_enter Tryz.func73,Tryz.ntmps73;go_wp2_with fail
  go_ret;exact ⟨none,0,rfl,World.ownsRow_nil _ _ _ _,Below.refl _ _⟩
 | some a=>
  have y:(w.alloc (.cells #[] 3)).heap[w.heap.size]? =some (.cells #[] 3 (0,0)):=heap_alloc_new w _;obtain ⟨g,D,p,x,u,s,j⟩:=kr (P:=Tryz.prog) (w.alloc (.cells #[] 3)) 28 28 3 (.int .i64 0) 1 8 Tryz.underlying28 GZ rfl (by decide) w.heap.size y (.slice (some a) l.length f) l.length (ib l) (h.below ((Below.refl _ _).alloc (Nat.le_refl _) _)) (Ia l) (by unfold maxLen;omega) (by omega);have r:Below w.heap.size w p:=((Below.refl w.heap.size w).alloc (Nat.le_refl _) _).grown s (by simp) (fun k t=>by injection t with t;omega);have C:=Lib.hid x;have B:=Lib.hid u;have A:=Lib.hid r;clear x u r s j y h;have G:=fun (w:World) (a:Option Addr) (n c o d:Nat)=>Lib.run_eql_slice_nil (P:=Tryz.prog) w 28 _ a n c o d Tryz.underlying28;go_enter Tryz.func73,Tryz.ntmps73
  go_wp2_with (first
   | (at_builtin;refine bB rfl _ _ 28 rfl _ _ (.slice (some ⟨g,0,none⟩) l.length D) p rfl rfl C.out ?_)
   | fail)
  go_ret;exact ⟨_,_,rfl,B.out,A.out⟩
theorem JF {w:World} {k:Nat} {o:Obj} (h:w.heap[k]? =some o):k < w.heap.size:=(Array.getElem?_eq_some_iff.1 h).1
theorem ft {w a:World} (b:Below w.heap.size w a) {k:Nat} {o:Obj} (h:w.heap[k]? =some o):a.heap[k]? =some o:=(b.block k (JF h)).trans h
theorem lK {p:Nat} {w b:World} (c:aL p w b) {k:Nat} {o:Obj} (h:w.heap[k]? =some o) (a:k≠p):b.heap[k]? =some o:=(c.2 k a).trans h
theorem yO {w j:World} {a i n:Nat} {e:TypeId} {v:Value} {k:List Value} (h:w.ownsRow a e i v n k) (p:∀g b,w.heap[g]? =some (.cells b e (0,0))→a≤g→j.heap[g]? =some (.cells b e (0,0))):j.ownsRow a e i v n k:=by
 obtain ⟨o,d⟩:=h;refine ⟨o,?_⟩
 rcases d with d | ⟨g,c,b,l,f,m,r⟩
 ·exact .inl d
 ·exact .inr ⟨g,c,b,l,f,p g b m f,r⟩
theorem sU {w:World} {a f i n:Nat} {e:TypeId} {v:Value} {j:List Value} (h:w.ownsRow a e i v n j) (o:f≤a):w.ownsRow f e i v n j:=by
 obtain ⟨m,d⟩:=h;refine ⟨m,?_⟩
 rcases d with d | ⟨g,b,c,k,l,r⟩
 ·exact .inl d
 ·exact .inr ⟨g,b,c,k,Nat.le_trans o l,r⟩
theorem JS {w:World} {a n f:Nat} {e:TypeId} {v:Value} {i:List Value} (h:w.ownsRow a e f v n i):bg w v n f i:=by
 refine ⟨h.1,?_⟩
 rcases h.2 with ⟨b,m⟩ | ⟨g,k,l,b,_,o,c,_,_,d⟩
 ·exact .inl ⟨m,none,0,b⟩
 ·refine .inr ⟨g,0,k,b,c,fun j p=>?_⟩;rw [Nat.zero_add,Lib.cell_of_heap o,←Array.getElem?_toList,←List.getElem?_take_of_lt p,d]
structure Ge (c:bX):Prop where
 host:c.host.size≤255
 doms:c.doms.length≤5
 domz:∀s∈c.doms,s.size≤255
 nets:c.nets.length≤5
 users:c.users.length≤5
 userz:∀x∈c.users,x.1.size≤255∧x.2.size≤255
 waits:c.waits.length≤5
theorem uc {s:ByteArray} (h:jj s.data.toList=true):s.size≤255:=by
 unfold jj at h;simp only [Bool.and_eq_true,decide_eq_true_eq,Array.length_toList] at h;have:s.size=s.data.size:=rfl;omega
theorem rZ {s:ByteArray} (h:mF s.data.toList=true):s.size≤255:=by
 unfold mF cF at h;simp only [Bool.and_eq_true,decide_eq_true_eq,Array.length_toList] at h;have:s.size=s.data.size:=rfl;omega
theorem kg {c:bX} (h:ij c=true):Ge c:=by
 unfold ij oq nr kG kI at h;simp only [Bool.and_eq_true,decide_eq_true_eq,List.all_eq_true] at h;obtain ⟨⟨⟨⟨⟨⟨⟨⟨d,e,f⟩,g,_⟩,i,j⟩,_⟩,_⟩,a,_⟩,_⟩,_⟩:=h;refine ⟨uc d,e,fun s l=>uc (f s l),g,i,fun x m=>?_,?_⟩
 ·obtain ⟨k,b,rfl⟩:=List.getElem_of_mem m;have:=j k (List.mem_range.2 b);unfold mq at this;simp only [Bool.and_eq_true,List.getD_eq_getElem?_getD,List.getElem?_eq_getElem b,Option.getD_some] at this;exact ⟨rZ this.1.1,rZ this.1.2⟩
 ·unfold cF at a;simp only [Bool.and_eq_true,decide_eq_true_eq] at a;omega
theorem kD {W:World} {a n l:Nat} {e:TypeId} {v:Value} {m:List Value} (h:W.ownsRow a e l v n m) {k:Nat} (b:v.ownBlock=some k):a≤k∧k < W.heap.size:=by
 rcases h.2 with ⟨c,_⟩ | ⟨g,d,f,c,i,j,_⟩
 ·rw [c] at b;cases b
 ·rw [c] at b;injection b with b;subst b;exact ⟨i,(Array.getElem?_eq_some_iff.1 j).1⟩
theorem re {W:World} {g a:Nat} {A:Array Value} {t:TypeId} {v:Value} (h:W.heap[g]? =some (.cells A t (0,0))) (d:A[a]? =some v):Below W.heap.size W (W.setCell ⟨g,a,none⟩ v):=by
 have b:aL g W (W.setCell ⟨g,a,none⟩ v):=(aL.refl _ _).setCell _;have f:=heap_setCell_same W g a _ _ v h
 have e:A.setIfInBounds a v=A:=by
  apply Array.ext_getElem?;intro i;rw [Array.getElem?_setIfInBounds]
  split
  ·rename_i j
   subst j;rw [d];simp [(Array.getElem?_eq_some_iff.1 d).1]
  ·rfl
 refine ⟨b.3.1,b.3.2.1,b.3.2.2,by rw [b.1];exact Nat.le_refl _,fun k _=>?_⟩
 by_cases c:k=g
 ·subst c;rw [h,f,e]
 ·exact b.2 k c
structure zM (w W:World) (c:bX) (D N U V:Value):Prop where
 box:W.heap[w.heap.size]? =some (.cells #[.string c.host,D,N,U,.int .i64 c.most,.int .i64 c.size,V,.int .i64 c.life,.int .i64 c.room] 30 (0,0))
 out:W.heap[w.heap.size+1]? =some (.cells #[.string ⟨#[]⟩,.slice none 0 0,.slice none 0 0,.slice none 0 0,.int .i64 0,.int .i64 0,.slice none 0 0,.int .i64 0,.int .i64 0] 30 (0,0))
 below:Below w.heap.size w W
theorem zM.keep {w W b:World} {c:bX} {D N U V:Value} (h:zM w W c D N U V) (a:Below W.heap.size W b):zM w b c D N U V:=
 ⟨ft a h.box,ft a h.out,h.below.trans (a.mono h.below.size)⟩
theorem zM.set {w W:World} {c:bX} {D N U V D' N' U' V':Value} (h:zM w W c D N U V) (j:Nat) (v:Value) (e:(#[.string c.host,D,N,U,.int .i64 c.most,.int .i64 c.size,V,.int .i64 c.life,.int .i64 c.room]:Array Value).setIfInBounds j v=#[.string c.host,D',N',U',.int .i64 c.most,.int .i64 c.size,V',.int .i64 c.life,.int .i64 c.room]):zM w (W.setCell ⟨w.heap.size,j,none⟩ v) c D' N' U' V':=by
 have a:aL w.heap.size W (W.setCell ⟨w.heap.size,j,none⟩ v):=(aL.refl _ _).setCell _;refine ⟨?_,lK a h.out (by omega),h.below.trans (a.below (Nat.le_refl _))⟩;have b:=heap_setCell_same W w.heap.size j _ _ v h.box;rw [e] at b;exact b
theorem zM.big {w W:World} {c:bX} {D N U V:Value} (h:zM w W c D N U V):w.heap.size+2≤W.heap.size:=JF h.out
theorem zM.cell {w W:World} {c:bX} {D N U V:Value} (h:zM w W c D N U V) (j:Nat):W.cell? ⟨w.heap.size,j,none⟩=(#[.string c.host,D,N,U,.int .i64 c.most,.int .i64 c.size,V,.int .i64 c.life,.int .i64 c.room]:Array Value)[j]? :=by rw [Lib.cell_of_heap h.box]
theorem zM.frozen {w W:World} {c:bX} {D N U V:Value} (h:zM w W c D N U V) (j:Nat):W.frozen? ⟨w.heap.size,j,none⟩=false:=Lib.frozen_of_heap h.box j
theorem jN {w W:World} {n a j:Nat} {e:TypeId} {v x:Value} {b:List Value} (h:W.ownsRow (w.heap.size+2) e a v n b):(W.setCell ⟨w.heap.size,j,none⟩ x).ownsRow (w.heap.size+2) e a v n b:=
 yO h fun _ _ e c=>lK ((aL.refl _ _).setCell _) e (by omega)
theorem dV {W b:World} {a n c:Nat} {e:TypeId} {v:Value} {d:List Value} (h:W.ownsRow a e c v n d) (f:Below W.heap.size W b):b.ownsRow a e c v n d:=yO h fun _ _ e _=>ft f e
theorem yN {w W a:World} {n b:Nat} {e:TypeId} {v:Value} {c:List Value} (h:W.ownsRow (w.heap.size+2) e b v n c) (d:aL (w.heap.size+1) W a):bg a v n b c:=
 JS (yO h fun _ _ e f=>lK d e (by omega))
theorem gU {W:World} {b j:Nat} {A A':Array Value} {t:TypeId} {v:Value} (h:W.heap[b]? =some (.cells A t (0,0))) (e:A.setIfInBounds j v=A'):(W.setCell ⟨b,j,none⟩ v).heap[b]? =some (.cells A' t (0,0)):=by
 rw [←e];exact heap_setCell_same W b j _ _ v h
theorem JR {w W a:World} {c:bX} {D N U V:Value} (h:zM w W c D N U V)
  (b:(((((((((W.setCell ⟨w.heap.size+1,0,none⟩ (.string c.host)).setCell ⟨w.heap.size+1,1,none⟩ D).setCell ⟨w.heap.size+1,2,none⟩ N).setCell ⟨w.heap.size+1,3,none⟩ U).setCell ⟨w.heap.size+1,4,none⟩ (.int .i64 c.most)).setCell ⟨w.heap.size+1,5,none⟩ (.int .i64 c.size)).setCell ⟨w.heap.size+1,6,none⟩ V).setCell ⟨w.heap.size+1,7,none⟩ (.int .i64 c.life)).setCell ⟨w.heap.size+1,8,none⟩ (.int .i64 c.room))=a):
  (∀j:Nat,a.cell? ⟨w.heap.size+1,j,none⟩=(#[.string c.host,D,N,U,.int .i64 c.most,.int .i64 c.size,V,.int .i64 c.life,.int .i64 c.room]:Array Value)[j]?)∧aL (w.heap.size+1) W a:=by
 have d:aL (w.heap.size+1) W a:=by rw [←b];exact (((((((((aL.refl _ _).setCell _).setCell _).setCell _).setCell _).setCell _).setCell _).setCell _).setCell _).setCell _
 refine ⟨fun j=>?_,d⟩
 have e:a.heap[w.heap.size+1]? =some (.cells #[.string c.host,D,N,U,.int .i64 c.most,.int .i64 c.size,V,.int .i64 c.life,.int .i64 c.room] 30 (0,0)):=by
  rw [←b];have f:=gU (j:=0) (v:= .string c.host) h.out (A':=#[.string c.host,.slice none 0 0,.slice none 0 0,.slice none 0 0,.int .i64 0,.int .i64 0,.slice none 0 0,.int .i64 0,.int .i64 0]) rfl;have g:=gU (j:=1) (v:=D) f (A':=#[.string c.host,D,.slice none 0 0,.slice none 0 0,.int .i64 0,.int .i64 0,.slice none 0 0,.int .i64 0,.int .i64 0]) rfl;have i:=gU (j:=2) (v:=N) g (A':=#[.string c.host,D,N,.slice none 0 0,.int .i64 0,.int .i64 0,.slice none 0 0,.int .i64 0,.int .i64 0]) rfl;have k:=gU (j:=3) (v:=U) i (A':=#[.string c.host,D,N,U,.int .i64 0,.int .i64 0,.slice none 0 0,.int .i64 0,.int .i64 0]) rfl;have l:=gU (j:=4) (v:= .int .i64 c.most) k (A':=#[.string c.host,D,N,U,.int .i64 c.most,.int .i64 0,.slice none 0 0,.int .i64 0,.int .i64 0]) rfl;have m:=gU (j:=5) (v:= .int .i64 c.size) l (A':=#[.string c.host,D,N,U,.int .i64 c.most,.int .i64 c.size,.slice none 0 0,.int .i64 0,.int .i64 0]) rfl;have n:=gU (j:=6) (v:=V) m (A':=#[.string c.host,D,N,U,.int .i64 c.most,.int .i64 c.size,V,.int .i64 0,.int .i64 0]) rfl;have o:=gU (j:=7) (v:= .int .i64 c.life) n (A':=#[.string c.host,D,N,U,.int .i64 c.most,.int .i64 c.size,V,.int .i64 c.life,.int .i64 0]) rfl;exact gU (j:=8) (v:= .int .i64 c.room) o (A':=#[.string c.host,D,N,U,.int .i64 c.most,.int .i64 c.size,V,.int .i64 c.life,.int .i64 c.room]) rfl
 rw [Lib.cell_of_heap e]
theorem Gw (c:bX) (vD vN vU vW:Value) (w:World) (h:jZ w c vD vN vU vW) (hs:Ge c):
  Calls Tryz.prog 43 #[.agg #[.string c.host,vD,vN,vU,.int .i64 c.most,.int .i64 c.size,vW,.int .i64 c.life,.int .i64 c.room]] w fun e E=>∃uD uN uU uW,e= .returned (.agg #[.string c.host,uD,uN,uU,.int .i64 c.most,.int .i64 c.size,uW,.int .i64 c.life,.int .i64 c.room])∧jZ E c uD uN uU uW∧Below w.heap.size w E∧∀k,(uD.ownBlock=some k∨uN.ownBlock=some k∨uU.ownBlock=some k∨uW.ownBlock=some k)→w.heap.size≤k∧k < E.heap.size:=by
 obtain ⟨aD,cD,n⟩:=aE h.1;obtain ⟨V,X,r⟩:=aE h.2.1;obtain ⟨R,T,o⟩:=aE h.2.2.1;obtain ⟨G,H,I⟩:=aE h.2.2.2;subst n r o I;obtain ⟨W0,b5⟩:∃W0:World,(w.alloc (.cells #[.string c.host,.slice aD c.doms.length cD,.slice V c.nets.length X,.slice R c.users.length T,.int .i64 c.most,.int .i64 c.size,.slice G c.waits.length H,.int .i64 c.life,.int .i64 c.room] 30)).alloc (.cells #[.string ⟨#[]⟩,.slice none 0 0,.slice none 0 0,.slice none 0 0,.int .i64 0,.int .i64 0,.slice none 0 0,.int .i64 0,.int .i64 0] 30)=W0:=⟨_,rfl⟩
 have C0:zM w W0 c (.slice aD c.doms.length cD) (.slice V c.nets.length X) (.slice R c.users.length T) (.slice G c.waits.length H):=by
  rw [←b5];refine ⟨ft ((Below.refl _ _).alloc (Nat.le_refl _) _) (heap_alloc_new w _),?_,((Below.refl _ _).alloc (Nat.le_refl _) _).alloc (by simp) _⟩;have:=heap_alloc_new (w.alloc (.cells #[.string c.host,.slice aD c.doms.length cD,.slice V c.nets.length X,.slice R c.users.length T,.int .i64 c.most,.int .i64 c.size,.slice G c.waits.length H,.int .i64 c.life,.int .i64 c.room] 30)) (.cells #[.string ⟨#[]⟩,.slice none 0 0,.slice none 0 0,.slice none 0 0,.int .i64 0,.int .i64 0,.slice none 0 0,.int .i64 0,.int .i64 0] 30);simpa using this
 have HH:=Lib.hid h;have U:=Lib.hid hs;have c1:=Lib.hid C0;have h1:=Lib.hid b5;have y0:W0.cell? ⟨w.heap.size,0,none⟩=some (.string c.host):=C0.cell 0;clear h hs C0 b5;go_enter Tryz.func43,Tryz.ntmps43;go_wp2_with fail
 rw [h1.out];go_wp2_with fail
 refine (iw c.host W0 (by have:=U.out.host;omega)).mono ?_;rintro e w1 ⟨rfl,d4⟩;have C1:=c1.out.keep d4;have y1:w1.cell? ⟨w.heap.size,1,none⟩=some (.slice aD c.doms.length cD):=C1.cell 1;have z0:w1.cell? ⟨w.heap.size,0,none⟩=some (.string c.host):=C1.cell 0;have f0:=C1.frozen 0;have L:=Lib.hid (C1.set (D':= .slice aD c.doms.length cD) (N':= .slice V c.nets.length X) (U':= .slice R c.users.length T) (V':= .slice G c.waits.length H) 0 (.string c.host) rfl);clear d4 C1 y0 c1;go_wp2_with fail
 obtain ⟨W2,c7⟩:∃W2:World,w1.setCell ⟨w.heap.size,0,none⟩ (.string c.host)=W2:=⟨_,rfl⟩;rw [c7] at L ⊢;clear c7 y1 z0 f0;refine (Cq c.doms _ W2 (HH.out.1.below L.out.below) U.out.doms).mono ?_;rintro e w3 ⟨q,n,rfl,d8,d5⟩;have C3:=L.out.keep d5;have y1:w3.cell? ⟨w.heap.size,1,none⟩=some (.slice aD c.doms.length cD):=C3.cell 1;have f1:=C3.frozen 1;have a2:=Lib.hid (C3.set (D':= .slice q c.doms.length n) (N':= .slice V c.nets.length X) (U':= .slice R c.users.length T) (V':= .slice G c.waits.length H) 1 (.slice q c.doms.length n) rfl);have a4:=Lib.hid (jN (w:=w) (j:=1) (x:= .slice q c.doms.length n) (sU d8 L.out.big));clear d5 C3 d8 L;go_wp2_with fail
 obtain ⟨W4,c8⟩:∃W4:World,w3.setCell ⟨w.heap.size,1,none⟩ (.slice q c.doms.length n)=W4:=⟨_,rfl⟩;rw [c8] at a2 a4 ⊢;clear c8 y1 f1;go_loopw [3,4,18] (fun _ _ i E=>∃k:Nat,k≤c.doms.length∧i= .int .i64 k∧Hid (zM w E c (.slice q c.doms.length n) (.slice V c.nets.length X) (.slice R c.users.length T) (.slice G c.waits.length H))∧Hid (E.ownsRow (w.heap.size+2) 9 1 (.slice q c.doms.length n) c.doms.length (dK c.doms))) (fun _ _ i _=>c.doms.length - (intOf i).toNat)
 case atStart=>exact ⟨0,Nat.zero_le _,rfl,a2,a4⟩
 case round=>
  clear a2 a4;obtain ⟨k,hk,rfl,p,P⟩:=hrel;have h6:c.doms.length≤5:=U.out.doms
  by_cases C:k < c.doms.length
  ·have d7:(k:Int) < (c.doms.length:Int):=by omega
   obtain ⟨g,rfl,b,J,y⟩:∃g,q=some ⟨g,0,none⟩∧∃b:Array Value,wr.heap[g]? =some (.cells b 9 (0,0))∧b[k]? =some (.string c.doms[k]):=by
    rcases P.out.2 with ⟨_,h0⟩ | ⟨g,cp,b,e,_,J,_,_,_,a1⟩
    ·omega
    ·injection e with e1 _ _;refine ⟨g,e1,b,J,?_⟩;rw [←Array.getElem?_toList,←List.getElem?_take_of_lt (show k < c.doms.length * 1 by omega),a1];simp [dK,C]
   have D:=U.out.domz c.doms[k] (List.getElem_mem C);obtain ⟨t,et⟩:∃t,c.doms[k]=t:=⟨_,rfl⟩;rw [et] at y D;clear et;have d0:wr.cell? ⟨g,k,none⟩=some (.string t):=by rw [Lib.cell_of_heap J];exact y
   have y1:wr.cell? ⟨w.heap.size,1,none⟩=some (.slice (some ⟨g,0,none⟩) c.doms.length n):=p.out.cell 1;have g4:=Lib.hid (iw t wr.drew (by omega));have c3:=Lib.hid y;have HG:Hid (wr.drew.heap[g]? =some (.cells b 9 (0,0))):=Lib.hid J;have z:Hid (zM w wr.drew c (.slice (some ⟨g,0,none⟩) c.doms.length n) (.slice V c.nets.length X) (.slice R c.users.length T) (.slice G c.waits.length H)):=Lib.hid (p.out.keep ((Below.refl _ _).drew));have a7:Hid (wr.drew.ownsRow (w.heap.size+2) 9 1 (.slice (some ⟨g,0,none⟩) c.doms.length n) c.doms.length (dK c.doms)):=Lib.hid (dV P.out ((Below.refl _ _).drew));have i1:wr.drew.cell? ⟨w.heap.size,1,none⟩=some (.slice (some ⟨g,0,none⟩) c.doms.length n):=z.out.cell 1;clear y J p P D;go_wp2_with fail
   go_region_law (first
    | (go_simp;go_at_call 69;refine g4.out.mono ?_;rintro e d ⟨rfl,a⟩;have f:=z.out.keep a;have O9:=dV a7.out a;have g9:=ft a HG.out;have d9:d.cell? ⟨g,k,none⟩=some (.string t):=(by rw [Lib.cell_of_heap g9];exact c3.out);have f9:=Lib.frozen_of_heap g9 k;have i2:d.cell? ⟨w.heap.size,1,none⟩=some (.slice (some ⟨g,0,none⟩) c.doms.length n):=f.cell 1;have c2:=Lib.hid f;have g6:=Lib.hid O9;have g5:=Lib.hid g9;clear f O9 g9 a;dsimp only))
   all_goals
    go_wp2_with fail
    have f7:=re g5.out c3.out;exact ⟨⟨k+1,by omega,by go_num,Lib.hid (c2.out.keep f7),Lib.hid (dV g6.out f7)⟩,by simp [intOf];omega⟩
  ·have b8:k=c.doms.length:=by omega
   subst b8;have y2:wr.cell? ⟨w.heap.size,2,none⟩=some (.slice V c.nets.length X):=p.out.cell 2;go_wp2_with fail
   refine (Cr c.nets _ wr (HH.out.2.1.below p.out.below) U.out.nets).mono ?_;rintro e w5 ⟨B,r,rfl,e9,b7⟩;have C5:=p.out.keep b7;have y2:w5.cell? ⟨w.heap.size,2,none⟩=some (.slice V c.nets.length X):=C5.cell 2;have y3:w5.cell? ⟨w.heap.size,3,none⟩=some (.slice R c.users.length T):=C5.cell 3;have f2:=C5.frozen 2;have M:=Lib.hid (C5.set (D':= .slice q c.doms.length n) (N':= .slice B c.nets.length r) (U':= .slice R c.users.length T) (V':= .slice G c.waits.length H) 2 (.slice B c.nets.length r) rfl);have a5:=Lib.hid (jN (w:=w) (j:=2) (x:= .slice B c.nets.length r) (dV P.out b7));have a9:=Lib.hid (jN (w:=w) (j:=2) (x:= .slice B c.nets.length r) (sU e9 p.out.big));clear b7 C5 e9 p P;go_wp2_with fail
   obtain ⟨W6,c9⟩:∃W6:World,w5.setCell ⟨w.heap.size,2,none⟩ (.slice B c.nets.length r)=W6:=⟨_,rfl⟩;rw [c9] at M a5 a9 ⊢;clear c9 y2 y3 f2;refine (Ct c.users _ W6 (HH.out.2.2.1.below M.out.below) U.out.users).mono ?_;rintro e w7 ⟨u,o,rfl,f4,a0⟩;have C7:=M.out.keep a0;have y3:w7.cell? ⟨w.heap.size,3,none⟩=some (.slice R c.users.length T):=C7.cell 3;have f3:=C7.frozen 3;have a3:=Lib.hid (C7.set (D':= .slice q c.doms.length n) (N':= .slice B c.nets.length r) (U':= .slice u c.users.length o) (V':= .slice G c.waits.length H) 3 (.slice u c.users.length o) rfl);have a6:=Lib.hid (jN (w:=w) (j:=3) (x:= .slice u c.users.length o) (dV a5.out a0));have b0:=Lib.hid (jN (w:=w) (j:=3) (x:= .slice u c.users.length o) (dV a9.out a0));have b2:=Lib.hid (jN (w:=w) (j:=3) (x:= .slice u c.users.length o) (sU f4 M.out.big));clear a0 C7 f4 M a5 a9;go_wp2_with fail
   obtain ⟨W8,d2⟩:∃W8:World,w7.setCell ⟨w.heap.size,3,none⟩ (.slice u c.users.length o)=W8:=⟨_,rfl⟩;rw [d2] at a3 a6 b0 b2 ⊢;clear d2 y3 f3;go_loopw [5,6,41] (fun _ _ i E=>∃k:Nat,k≤c.users.length∧i= .int .i64 k∧Hid (zM w E c (.slice q c.doms.length n) (.slice B c.nets.length r) (.slice u c.users.length o) (.slice G c.waits.length H))∧Hid (E.ownsRow (w.heap.size+2) 9 1 (.slice q c.doms.length n) c.doms.length (dK c.doms))∧Hid (E.ownsRow (w.heap.size+2) 77 2 (.slice B c.nets.length r) c.nets.length (ik c.nets))∧Hid (E.ownsRow (w.heap.size+2) 79 2 (.slice u c.users.length o) c.users.length (cH c.users))) (fun _ _ i _=>c.users.length - (intOf i).toNat)
   case atStart=>exact ⟨0,Nat.zero_le _,rfl,a3,a6,b0,b2⟩
   case round=>
    clear a3 a6 b0 b2;obtain ⟨k,hk,rfl,p,P,HP,HQ⟩:=hrel;have h7:c.users.length≤5:=U.out.users
    by_cases C:k < c.users.length
    ·have d7:(k:Int) < (c.users.length:Int):=by omega
     obtain ⟨g,rfl,b,J,l,m⟩:∃g,u=some ⟨g,0,none⟩∧∃b:Array Value,wr.heap[g]? =some (.cells b 79 (0,0))∧b[k * 2]? =some (.string c.users[k].1)∧b[k * 2+1]? =some (.string c.users[k].2):=by
      rcases HQ.out.2 with ⟨_,h0⟩ | ⟨g,cp,b,e,_,J,_,_,_,a1⟩
      ·omega
      ·injection e with e1 _ _;refine ⟨g,e1,b,J,?_,?_⟩
       ·rw [←Array.getElem?_toList,←List.getElem?_take_of_lt (show k * 2 < c.users.length * 2 by omega),a1];exact tp _ k C
       ·rw [←Array.getElem?_toList,←List.getElem?_take_of_lt (show k * 2+1 < c.users.length * 2 by omega),a1];exact qD _ k C
     have D:=U.out.userz c.users[k] (List.getElem_mem C);obtain ⟨t,et⟩:∃t,c.users[k]=t:=⟨_,rfl⟩;rw [et] at l m D;obtain ⟨t0,O⟩:=t;simp only at l m D;clear et;have d0:wr.cell? ⟨g,k * 2,none⟩=some (.string t0):=by rw [Lib.cell_of_heap J];exact l
     have d1:wr.cell? ⟨g,k * 2+1,none⟩=some (.string O):=by rw [Lib.cell_of_heap J];exact m
     obtain ⟨s,Z⟩:∃s:World,wr.alloc (.cells #[.string t0,.string O] 79)=s:=⟨_,rfl⟩;have B1:Below wr.heap.size wr s:=by rw [←Z];exact (Below.refl _ _).alloc (Nat.le_refl _) _
     have X1:s.heap[wr.heap.size]? =some (.cells #[.string t0,.string O] 79 (0,0)):=by rw [←Z];exact heap_alloc_new wr _
     have D1:Below wr.heap.size wr s.drew:=B1.drew;have z:=Lib.hid (p.out.keep D1);have a7:=Lib.hid (dV P.out D1);have g7:=Lib.hid (dV HP.out D1);have g8:=Lib.hid (dV HQ.out D1);have HG:Hid (s.drew.heap[g]? =some (.cells b 79 (0,0))):=Lib.hid (ft D1 J);have HX:Hid (s.drew.heap[wr.heap.size]? =some (.cells #[.string t0,.string O] 79 (0,0))):=Lib.hid X1;have y3:s.cell? ⟨w.heap.size,3,none⟩=some (.slice (some ⟨g,0,none⟩) c.users.length o):=(p.out.keep B1).cell 3;have i3:s.drew.cell? ⟨w.heap.size,3,none⟩=some (.slice (some ⟨g,0,none⟩) c.users.length o):=z.out.cell 3;have x0:s.cell? ⟨wr.heap.size,0,none⟩=some (.string t0):=by rw [Lib.cell_of_heap X1];rfl
     have x1:s.cell? ⟨wr.heap.size,1,none⟩=some (.string O):=by rw [Lib.cell_of_heap X1];rfl
     have h8:s.drew.cell? ⟨wr.heap.size,0,none⟩=some (.string t0):=x0;have h9:s.drew.cell? ⟨wr.heap.size,1,none⟩=some (.string O):=x1;have f8:=Lib.hid (iw t0 s.drew (by omega));have g0:Hid (∀W:World,Calls Tryz.prog 69 #[.string O] W fun e E=>e= .returned (.string O)∧Below W.heap.size W E):=Lib.hid (fun W=>iw O W (by omega));have c5:=Lib.hid l;have c6:=Lib.hid m;have h2:=Lib.hid Z;clear l m J p P HP HQ D Z B1 X1 D1;go_wp2_with fail
     rw [h2.out]
     go_region_law (first
      | (go_simp;go_at_call 69;refine f8.out.mono ?_;rintro e d ⟨rfl,a⟩;have f:=z.out.keep a;have X9:=ft a HX.out;have i4:d.cell? ⟨w.heap.size,3,none⟩=some (.slice (some ⟨g,0,none⟩) c.users.length o):=f.cell 3;have i0:d.cell? ⟨wr.heap.size,1,none⟩=some (.string O):=(by rw [Lib.cell_of_heap X9];rfl);have c2:=Lib.hid f;have c0:=Lib.hid a;clear f X9 a;dsimp only)
      | (go_simp;go_at_call 69;refine (g0.out d).mono ?_;rintro e wa ⟨rfl,d6⟩;have K:=Lib.hid (c0.out.trans (d6.mono c0.out.size));have Ca:=z.out.keep K.out;have ga:=ft K.out HG.out;have da:wa.cell? ⟨g,k * 2,none⟩=some (.string t0):=(by rw [Lib.cell_of_heap ga];exact c5.out);have h4:wa.cell? ⟨g,k * 2+1,none⟩=some (.string O):=(by rw [Lib.cell_of_heap ga];exact c6.out);have fa:=Lib.frozen_of_heap ga (k * 2);have h5:=Lib.frozen_of_heap ga (k * 2+1);have i5:wa.cell? ⟨w.heap.size,3,none⟩=some (.slice (some ⟨g,0,none⟩) c.users.length o):=Ca.cell 3;have N:=Lib.hid Ca;have c4:=Lib.hid ga;clear Ca ga d6;dsimp only))
     all_goals
      go_wp2_with fail
      have s1:=re c4.out c5.out;have s2:=s1.trans ((re (ft s1 c4.out) c6.out).mono s1.size);exact ⟨⟨k+1,by omega,by go_num,Lib.hid (N.out.keep s2),Lib.hid (dV (dV a7.out K.out) s2),Lib.hid (dV (dV g7.out K.out) s2),Lib.hid (dV (dV g8.out K.out) s2)⟩,by simp [intOf];omega⟩
    ·have b8:k=c.users.length:=by omega
     subst b8;have y6:wr.cell? ⟨w.heap.size,6,none⟩=some (.slice G c.waits.length H):=p.out.cell 6;go_wp2_with fail
     refine (Cu c.waits _ wr (HH.out.2.2.2.below p.out.below) U.out.waits).mono ?_;rintro e d ⟨S,I,rfl,f5,a⟩;have f:=p.out.keep a;have y6:d.cell? ⟨w.heap.size,6,none⟩=some (.slice G c.waits.length H):=f.cell 6;have f6:=f.frozen 6;have N:=Lib.hid (f.set (D':= .slice q c.doms.length n) (N':= .slice B c.nets.length r) (U':= .slice u c.users.length o) (V':= .slice S c.waits.length I) 6 (.slice S c.waits.length I) rfl);have a8:=Lib.hid (jN (w:=w) (j:=6) (x:= .slice S c.waits.length I) (dV P.out a));have b1:=Lib.hid (jN (w:=w) (j:=6) (x:= .slice S c.waits.length I) (dV HP.out a));have b3:=Lib.hid (jN (w:=w) (j:=6) (x:= .slice S c.waits.length I) (dV HQ.out a));have b4:=Lib.hid (jN (w:=w) (j:=6) (x:= .slice S c.waits.length I) (sU f5 p.out.big));have Y:=fun j=>f.cell j;have k0:d.cell? ⟨w.heap.size,0,none⟩=some (.string c.host):=Y 0;have k1:d.cell? ⟨w.heap.size,1,none⟩=some (.slice q c.doms.length n):=Y 1;have k2:d.cell? ⟨w.heap.size,2,none⟩=some (.slice B c.nets.length r):=Y 2;have k3:d.cell? ⟨w.heap.size,3,none⟩=some (.slice u c.users.length o):=Y 3;have k4:d.cell? ⟨w.heap.size,4,none⟩=some (.int .i64 c.most):=Y 4;have k5:d.cell? ⟨w.heap.size,5,none⟩=some (.int .i64 c.size):=Y 5;have k7:d.cell? ⟨w.heap.size,7,none⟩=some (.int .i64 c.life):=Y 7;have k8:d.cell? ⟨w.heap.size,8,none⟩=some (.int .i64 c.room):=Y 8;have m0:d.cell? ⟨w.heap.size+1,0,none⟩=some (.string ⟨#[]⟩):=by rw [Lib.cell_of_heap f.out];rfl
     have m1:d.cell? ⟨w.heap.size+1,1,none⟩=some (.slice none 0 0):=by rw [Lib.cell_of_heap f.out];rfl
     have m2:d.cell? ⟨w.heap.size+1,2,none⟩=some (.slice none 0 0):=by rw [Lib.cell_of_heap f.out];rfl
     have m3:d.cell? ⟨w.heap.size+1,3,none⟩=some (.slice none 0 0):=by rw [Lib.cell_of_heap f.out];rfl
     have m4:d.cell? ⟨w.heap.size+1,4,none⟩=some (.int .i64 0):=by rw [Lib.cell_of_heap f.out];rfl
     have m5:d.cell? ⟨w.heap.size+1,5,none⟩=some (.int .i64 0):=by rw [Lib.cell_of_heap f.out];rfl
     have m6:d.cell? ⟨w.heap.size+1,6,none⟩=some (.slice none 0 0):=by rw [Lib.cell_of_heap f.out];rfl
     have m7:d.cell? ⟨w.heap.size+1,7,none⟩=some (.int .i64 0):=by rw [Lib.cell_of_heap f.out];rfl
     have m8:d.cell? ⟨w.heap.size+1,8,none⟩=some (.int .i64 0):=by rw [Lib.cell_of_heap f.out];rfl
     have ff:∀j:Nat,d.frozen? ⟨w.heap.size+1,j,none⟩=false:=fun j=>Lib.frozen_of_heap f.out j;clear Y a f f5 p P HP HQ;go_wp2_with fail
     obtain ⟨Wa,d3⟩:∃Wa:World,d.setCell ⟨w.heap.size,6,none⟩ (.slice S c.waits.length I)=Wa:=⟨_,rfl⟩;rw [d3] at N a8 b1 b3 b4 ⊢;obtain ⟨F,b6⟩:∃F:World,(((((((((Wa.setCell ⟨w.heap.size+1,0,none⟩ (.string c.host)).setCell ⟨w.heap.size+1,1,none⟩ (.slice q c.doms.length n)).setCell ⟨w.heap.size+1,2,none⟩ (.slice B c.nets.length r)).setCell ⟨w.heap.size+1,3,none⟩ (.slice u c.users.length o)).setCell ⟨w.heap.size+1,4,none⟩ (.int .i64 c.most)).setCell ⟨w.heap.size+1,5,none⟩ (.int .i64 c.size)).setCell ⟨w.heap.size+1,6,none⟩ (.slice S c.waits.length I)).setCell ⟨w.heap.size+1,7,none⟩ (.int .i64 c.life)).setCell ⟨w.heap.size+1,8,none⟩ (.int .i64 c.room))=F:=⟨_,rfl⟩;rw [b6];obtain ⟨Q,Sf⟩:=JR N.out b6;have A:=Lib.hid Sf;have e0:F.cell? ⟨w.heap.size+1,0,none⟩=some (.string c.host):=Q 0;have e1:F.cell? ⟨w.heap.size+1,1,none⟩=some (.slice q c.doms.length n):=Q 1;have e2:F.cell? ⟨w.heap.size+1,2,none⟩=some (.slice B c.nets.length r):=Q 2;have e3:F.cell? ⟨w.heap.size+1,3,none⟩=some (.slice u c.users.length o):=Q 3;have e4:F.cell? ⟨w.heap.size+1,4,none⟩=some (.int .i64 c.most):=Q 4;have e5:F.cell? ⟨w.heap.size+1,5,none⟩=some (.int .i64 c.size):=Q 5;have e6:F.cell? ⟨w.heap.size+1,6,none⟩=some (.slice S c.waits.length I):=Q 6;have e7:F.cell? ⟨w.heap.size+1,7,none⟩=some (.int .i64 c.life):=Q 7;have e8:F.cell? ⟨w.heap.size+1,8,none⟩=some (.int .i64 c.room):=Q 8;clear b6 d3 Q Sf;refine bodyPost_ret (v:= .agg #[.string c.host,.slice q c.doms.length n,.slice B c.nets.length r,.slice u c.users.length o,.int .i64 c.most,.int .i64 c.size,.slice S c.waits.length I,.int .i64 c.life,.int .i64 c.room]) (by simp [results,Tryz.results43,go_sem,e0,e1,e2,e3,e4,e5,e6,e7,e8]) rfl ?_
     exact ⟨_,_,_,_,rfl,⟨yN a8.out A.out,yN b1.out A.out,yN b3.out A.out,yN b4.out A.out⟩,N.out.below.trans (A.out.below (by omega)),fun k e=>by
      have h3:F.heap.size=Wa.heap.size:=A.out.1;rw [h3]
      rcases e with e | e | e | e
      ·have:=kD a8.out e;omega
      ·have:=kD b1.out e;omega
      ·have:=kD b3.out e;omega
      ·have:=kD b4.out e;omega⟩
def yr (x:ByteArray×ByteArray):ByteArray:=(⟨#[0]⟩++x.1++⟨#[0]⟩)++x.2
def iV (shown:ByteArray) (x:ByteArray×ByteArray):Bool:=(shown.toList == (yr x).toList) || (shown.toList == (x.1++yr x).toList)
theorem AM (c:bX) (Q R S T:Value) (a:ByteArray) (w:World) (h:jZ w c Q R S T) (hn:c.users.length≤5) (N:∀x∈c.users,x.1.size≤255∧x.2.size≤255):
  Calls Tryz.prog 200 #[.agg #[.string c.host,Q,R,S,.int .i64 c.most,.int .i64 c.size,T,.int .i64 c.life,.int .i64 c.room],.string a] w fun e I=>e= .returned (.bool (c.users.any (iV a)))∧Below w.heap.size w I:=by
 obtain ⟨V,Z,eD⟩:=aE h.1;obtain ⟨W,cN,eN⟩:=aE h.2.1;obtain ⟨Y,cW,eW⟩:=aE h.2.2.2;obtain ⟨X,cU,eU,M⟩:=h.2.2.1.shape;subst eD eN eU eW;obtain ⟨C,l⟩:∃C:World,w.alloc (.cells #[.string c.host,.slice V c.doms.length Z,.slice W c.nets.length cN,.slice X c.users.length cU,.int .i64 c.most,.int .i64 c.size,.slice Y c.waits.length cW,.int .i64 c.life,.int .i64 c.room] 30)=C:=⟨_,rfl⟩;have J:Below w.heap.size w C:=by rw [←l];exact (Below.refl _ _).alloc (Nat.le_refl _) _
 have K:=Lib.hid M;have U:=Lib.hid N;have u:=Lib.hid J;have B:=Lib.hid l;clear h M N J l;go_enter Tryz.func200,Tryz.ntmps200;go_wp2_with fail
 rw [B.out];go_loopw [6,7,11] (fun _ _ i I=>∃k:Nat,k≤c.users.length∧i= .int .i64 k∧Hid ((c.users.take k).any (iV a)=false)∧Hid (Below w.heap.size w I)) (fun _ _ i _=>c.users.length - (intOf i).toNat)
 case atStart=>exact ⟨0,Nat.zero_le _,rfl,Lib.hid rfl,u⟩
 case round=>
  obtain ⟨k,hk,rfl,v,n⟩:=hrel
  by_cases g:k < c.users.length
  ·have O:(k:Int) < (c.users.length:Int):=by omega
   obtain ⟨b,q,rfl,o,f⟩:=K.out k 0 g (by omega);obtain ⟨b',P,D,_,d⟩:=K.out k 1 g (by omega);injection D with D;injection D with e1 e2 _;subst e1 e2;rw [Nat.add_zero,tp c.users k g] at f;rw [qD c.users k g] at d;have p:=U.out c.users[k] (List.getElem_mem g);have A:Hid ((c.users.take (k+1)).any (iV a)=iV a c.users[k]):=Lib.hid (by rw [List.take_succ_eq_append_getElem g,List.any_append,v.out];simp);have r:Hid (iV a c.users[k]=true→c.users.any (iV a)=true):=Lib.hid (fun e=>List.any_eq_true.2 ⟨_,List.getElem_mem g,e⟩);obtain ⟨x,L⟩:∃x,c.users[k]=x:=⟨_,rfl⟩;rw [L] at f d p A r;obtain ⟨j,m⟩:=x;simp only at f d p;have d0:wr.cell? ⟨b,q+k * 2,none⟩=some (.string j):=(n.out.cell (by exact o)).trans f;have d1:wr.cell? ⟨b,q+k * 2+1,none⟩=some (.string m):=(n.out.cell (by exact o)).trans d;have E:iV a (j,m)=((a.toList == ((⟨#[0]⟩++j++⟨#[0]⟩)++m).toList) || (a.toList == (j++((⟨#[0]⟩++j++⟨#[0]⟩)++m)).toList)):=rfl;obtain ⟨t1,G⟩:∃t,(a.toList == ((⟨#[0]⟩++j++⟨#[0]⟩)++m).toList)=t:=⟨_,rfl⟩;obtain ⟨t2,H⟩:∃t,(a.toList == (j++((⟨#[0]⟩++j++⟨#[0]⟩)++m)).toList)=t:=⟨_,rfl⟩;rw [G,H] at E;rw [E] at A r;clear L f d E;have s:=Lib.hid (n.out.alloc n.out.size (.cells #[.string j,.string m] 79))
   cases t1 with
   | true=>
    have z:=Lib.hid (r.out (by simp));go_wp2_with fail
    go_ret;exact ⟨by rw [z.out];rfl,s.out⟩
   | false=>
    cases t2 with
    | true=>
     have z:=Lib.hid (r.out (by simp));go_wp2_with fail
     go_ret;exact ⟨by rw [z.out];rfl,s.out⟩
    | false=>
     have y:Hid ((c.users.take (k+1)).any (iV a)=false):=Lib.hid (A.out.trans (by simp));go_wp2_with fail
     exact ⟨⟨k+1,by omega,by go_num,y,s⟩,by simp [intOf];omega⟩
  ·have F:k=c.users.length:=by omega
   subst F;rw [List.take_length] at v;go_wp2_with fail
   go_ret;exact ⟨by rw [v.out];rfl,n.out⟩
structure ko (w:World) (pp:Nat) (c:bX) (vD vN vU vW:Value):Prop where
 blk:∃A:Array Value,w.heap[pp]? =some (.cells A 88 (0,0))∧A.toList.take 9=[.string c.host,vD,vN,vU,.int .i64 c.most,.int .i64 c.size,vW,.int .i64 c.life,.int .i64 c.room]
 rows:jZ w c vD vN vU vW
 may:ij c=true
theorem ko.small {w:World} {a:Nat} {c:bX} {b d e f:Value} (h:ko w a c b d e f):Ge c:=kg h.may
theorem ko.cell {w:World} {a:Nat} {c:bX} {b d e f:Value} (h:ko w a c b d e f) (j:Nat) (i:j < 9):w.cell? ⟨a,j,none⟩=[.string c.host,b,d,e,.int .i64 c.most,.int .i64 c.size,f,.int .i64 c.life,.int .i64 c.room][j]? :=by
 obtain ⟨A,g,k⟩:=h.blk;rw [Lib.cell_of_heap g,←Array.getElem?_toList,←List.getElem?_take_of_lt i,k]
theorem Fc (sb b j:Nat) (C:Array Value) (a:ByteArray) (w:World) (h:bT w sb b C []) (i:C[8]? =some (.pointer (some ⟨j,0,none⟩))):
  Calls Tryz.prog 146 #[.pointer (some ⟨sb,0,none⟩),.string a] w fun e d=>e= .returned (.tuple #[])∧bT d sb b C [[53,48,51,32,102,105,114,115,116,13,10]]∧aL b w d:=by
 have f:=Lib.hid (h.tell (by simp) [53,48,51,32,102,105,114,115,116] (by decide));have k:=(h.cell 8).trans i;clear h;go_enter Tryz.func146,Tryz.ntmps146;go_wp2_with fail
 refine f.out.mono ?_;rintro e l ⟨rfl,g,c⟩;go_wp2_with fail
 refine bodyPost_end (results_none rfl _ _ _) rfl ?_;exact ⟨rfl,g,c⟩
theorem CQ (sb b:Nat) (C:Array Value) (a:ByteArray) (w:World) (h:bT w sb b C []) (j:C[8]? =some (.pointer none)) (i:C[6]? =some (.bool true)):
  Calls Tryz.prog 146 #[.pointer (some ⟨sb,0,none⟩),.string a] w fun e d=>e= .returned (.tuple #[])∧bT d sb b C [[53,48,51,32,102,105,114,115,116,13,10]]∧aL b w d:=by
 have f:=Lib.hid (h.tell (by simp) [53,48,51,32,102,105,114,115,116] (by decide));have l:=(h.cell 8).trans j;have k:=(h.cell 6).trans i;clear h;go_enter Tryz.func146,Tryz.ntmps146;go_wp2_with fail
 refine f.out.mono ?_;rintro e m ⟨rfl,g,c⟩;go_wp2_with fail
 refine bodyPost_end (results_none rfl _ _ _) rfl ?_;exact ⟨rfl,g,c⟩
theorem G6 (sb s z:Nat) (C:Array Value) (c:bX) (I J K L:Value) (f:ByteArray) (w:World) (h:bT w sb s C []) (i:ko w z c I J K L) (G:C[0]? =some (.pointer (some ⟨z,0,none⟩))) (H:C[8]? =some (.pointer none)) (x:C[6]? =some (.bool false)):
  Calls Tryz.prog 146 #[.pointer (some ⟨sb,0,none⟩),.string f] w fun e p=>e= .returned (.tuple #[])∧bT p sb s (if c.users.any (iV f) then C.setIfInBounds 6 (.bool true) else C) [if c.users.any (iV f) then [50,51,53,32,111,107,13,10] else [53,51,53,32,110,111,13,10]]∧(∀k,k < w.heap.size→k≠sb→k≠s→p.heap[k]? =w.heap[k]?)∧dU w p∧w.heap.size≤p.heap.size:=by
 have c8:=(h.cell 8).trans H;have c6:=(h.cell 6).trans x;have c0:=(h.cell 0).trans G;obtain ⟨W,cD,B⟩:=aE i.rows.1;obtain ⟨X,cN,D⟩:=aE i.rows.2.1;obtain ⟨Y,cU,E⟩:=aE i.rows.2.2.1;obtain ⟨Z,cW,F⟩:=aE i.rows.2.2.2;subst B D E F;have N:=i.cell 0 (by decide);have O:=i.cell 1 (by decide);have P:=i.cell 2 (by decide);have Q:=i.cell 3 (by decide);have R:=i.cell 4 (by decide);have S:=i.cell 5 (by decide);have T:=i.cell 6 (by decide);have U:=i.cell 7 (by decide);have V:=i.cell 8 (by decide);simp only [List.getElem?_cons_zero,List.getElem?_cons_succ] at N O P Q R S T U V;have o:=Lib.hid (AM c _ _ _ _ f w i.rows i.small.users i.small.userz);have A:=Lib.hid h;obtain ⟨t,y⟩:∃t,c.users.any (iV f)=t:=⟨_,rfl⟩;rw [y] at o ⊢;clear h i y;go_enter Tryz.func146,Tryz.ntmps146;go_wp2_with fail
 refine o.out.mono ?_;rintro e q ⟨rfl,l⟩;have n:=A.out.below l;have g:=Lib.hid l
 cases t with
 | true=>
  have d6:=(n.cell 6).trans x;have f6:=n.frozen 6;have v:aL sb q (q.setCell ⟨sb,6,none⟩ (.bool true)):=(aL.refl _ _).setCell _;have r:=Lib.hid ((n.set 6 (by decide) (.bool true)).tell (by simp) [50,51,53,32,111,107] (by decide));have m:=Lib.hid v;clear n v l o;go_wp2_with fail
  refine r.out.mono ?_;rintro e M ⟨rfl,u,j⟩;go_wp2_with fail
  refine bodyPost_end (results_none rfl _ _ _) rfl ?_;refine ⟨rfl,u,fun k a b d=>(j.2 k d).trans ((m.out.2 k b).trans (g.out.block k a)),((show dU w q from ⟨g.out.1,g.out.2,g.out.3⟩).trans m.out.3).trans j.3,?_⟩;rw [j.1,m.out.1];exact g.out.size
 | false=>
  have r:=Lib.hid (n.tell (by simp) [53,51,53,32,110,111] (by decide));clear n l o;go_wp2_with fail
  refine r.out.mono ?_;rintro e M ⟨rfl,u,j⟩;go_wp2_with fail
  refine bodyPost_end (results_none rfl _ _ _) rfl ?_;refine ⟨rfl,u,fun k a _ d=>(j.2 k d).trans (g.out.block k a),(show dU w q from ⟨g.out.1,g.out.2,g.out.3⟩).trans j.3,?_⟩;rw [j.1];exact g.out.size
def tw (w:World):Prop:=Lib.TabIs Tryz.prog w "internal/strconv.uint64pow10" .u64 Lib.pow10Tab
theorem yb:Tryz.prog.globalNamed "internal/strconv.uint64pow10"=some 6:=by kernel_rfl
theorem tw.block {w a:World} (h:tw w) (e:a.heap[6]? =w.heap[6]?):tw a:=by
 unfold tw Lib.TabIs World.var? at h ⊢;rw [yb] at h ⊢;simp only [Option.bind_some] at h ⊢;rw [e];exact h
theorem tw.lt {w:World} (h:tw w):6 < w.heap.size:=by
 unfold tw Lib.TabIs World.var? at h;rw [yb] at h;simp only [Option.bind_some] at h
 rcases hh:w.heap[6]? with _ | o
 ·rw [hh] at h;simp at h
 ·exact ah hh
theorem tw.below {w a:World} (h:tw w) (b:Below w.heap.size w a):tw a:=h.block (b.block _ h.lt)
theorem tw.chg {A:Nat→Prop} {w a:World} (h:tw w) (b:aH A w a) (c:¬A 6):tw a:=h.block (b.block _ h.lt c)
theorem tw.same {b:Nat} {w a:World} (h:tw w) (d:aL b w a) (c:b≠6):tw a:=h.block (d.2 _ (Ne.symm c))
theorem EC (w:World) (k:Nat) (a:Array Obj):Below w.heap.size w (Sort.grow (w.drewN k) a):=by
 have h:=bA k w w.heap.size;refine ⟨h.os,h.tape,h.output,?_,fun j b=>?_⟩
 ·show w.heap.size≤((w.drewN k).heap++a).size;rw [Array.size_append];have:=h.size;omega
 ·show ((w.drewN k).heap++a)[j]? =_;rw [Array.getElem?_append_left (Nat.lt_of_lt_of_le b h.size)];exact h.block j b
theorem AP (n:Int) (b: -9223372036854775808≤n) (c:n≤9223372036854775807) (w:World) (d:tw w):
  Calls Tryz.prog 196 #[.int .i64 n] w fun e a=>e= .returned (.string (bs (Lib.itoa n)))∧Below w.heap.size w a:=by
 refine (Tryz.strconv_Itoa n b c w d).mono ?_;rintro e a ⟨rfl,k,f,rfl⟩;exact ⟨rfl,EC w k f⟩
theorem kZ (n:Nat):∀k,n < 10 ^ (k+1)→(Lib.decDigits n).length≤k+1:=by
 induction n using Nat.strongRecOn with
 | ind n ih=>
  intro k a;rw [Lib.decDigits]
  split
  ·simp
  ·rename_i h
   cases k with
   | zero=>omega
   | succ k=>
    have:=ih (n / 10) (by omega) k (by rw [Nat.pow_succ] at a;omega);simp;omega
theorem wE (sb l i:Nat) (C:Array Value) (b:List UInt8) (a:Int) (w:World) (h:bT w sb l C []) (M:C[0]? =some (.pointer (some ⟨i,0,none⟩))) (X:w.cell? ⟨i,0,none⟩=some (.string (bs b))) (J:w.cell? ⟨i,5,none⟩=some (.int .i64 a)) (p:i≠sb) (H:i≠l) (hl:b.length≤255) (P:tw w) (I:sb≠6) (G:l≠6) (a0:0≤a) (a1:a≤1000):
  Calls Tryz.prog 145 #[.pointer (some ⟨sb,0,none⟩)] w fun e Q=>e= .returned (.tuple #[])∧bT Q sb l ((C.setIfInBounds 5 (.bool true)).setIfInBounds 8 (.pointer none)) [[50,53,48,45]++b++[13,10],[50,53,48,45,83,73,90,69,32]++Lib.itoa a++[13,10],[50,53,48,32,65,85,84,72,32,80,76,65,73,78,13,10]]∧aH (fun k=>k=sb∨k=l) w Q:=by
 have hz:=h.size;obtain ⟨v5,K⟩:∃q,C[5]? =some q:=⟨_,Array.getElem?_eq_getElem (by omega)⟩;have c5:=(h.cell 5).trans K;have f5:=h.frozen 5;have c0:=(h.cell 0).trans M;have A:aL sb w (w.setCell ⟨sb,5,none⟩ (.bool true)):=(aL.refl _ _).setCell _;have Y:(w.setCell ⟨sb,5,none⟩ (.bool true)).cell? ⟨i,0,none⟩=some (.string (bs b)):=(A.cell p).trans X;have L:=h.set 5 (by decide) (.bool true);have o:=P.same A I;have V:=Lib.hid (L.tell (by simp) ([50,53,48,45]++b) (by rw [List.length_append];simp;omega));have g:(⟨#[50,53,48,45]⟩:ByteArray)++bs b=bs ([50,53,48,45]++b):=cE [50,53,48,45] b;have c:(⟨#[50,53,48,45,83,73,90,69,32]⟩:ByteArray)++bs (Lib.itoa a)=bs ([50,53,48,45,83,73,90,69,32]++Lib.itoa a):=cE [50,53,48,45,83,73,90,69,32] _
 have Z:(Lib.itoa a).length≤4:=by
  unfold Lib.itoa;rw [if_neg (by omega)];exact kZ _ 3 (by omega)
 have T:=Lib.hid g;have r:=Lib.hid c;have O:=aG b;have a2:=aG (Lib.itoa a);have B:(C.setIfInBounds 5 (.bool true))[0]? =some (.pointer (some ⟨i,0,none⟩)):=by rw [Array.getElem?_setIfInBounds_ne (by decide)];exact M
 have U:Hid (tw (w.setCell ⟨sb,5,none⟩ (.bool true))):=Lib.hid o;have m:=Lib.hid A;clear h L g c P o;go_enter_defers Tryz.func145,Tryz.ntmps145
 go_wp2_with fail
 rw [T.out];refine V.out.mono ?_;rintro e R ⟨rfl,D,d⟩;have d0:=(D.cell 0).trans B;have d5:R.cell? ⟨i,5,none⟩=some (.int .i64 a):=(d.cell H).trans ((m.out.cell p).trans J);have u:Hid (tw R):=Lib.hid (U.out.same d G);have t:=Lib.hid D;have v:=Lib.hid d;clear D d;go_wp2_with fail
 refine (AP a (by omega) (by omega) _ u.out).mono ?_;rintro e w2 ⟨rfl,j⟩;have y:=Lib.hid ((t.out.below j).tell (by simp) ([50,53,48,45,83,73,90,69,32]++Lib.itoa a) (by rw [List.length_append];simp;omega));have s:=Lib.hid j;clear j;go_wp2_with fail
 rw [r.out];refine y.out.mono ?_;rintro e w3 ⟨rfl,N,n⟩;have z:=Lib.hid (N.tell (by simp) [50,53,48,32,65,85,84,72,32,80,76,65,73,78] (by decide));have x:=Lib.hid n;clear N n;go_wp2_with fail
 refine z.out.mono ?_;rintro e S ⟨rfl,E,F⟩;obtain ⟨q,hv⟩:∃q,(C.setIfInBounds 5 (.bool true))[8]? =some q:=⟨_,Array.getElem?_eq_getElem (by simp;omega)⟩;have W:aL sb S (S.setCell ⟨sb,8,none⟩ (.pointer none)):=(aL.refl _ _).setCell _;go_wp2_with fail
 refine leaves_cons (f:=194) (args:=#[.pointer (some ⟨sb,0,none⟩)]) (by simp) (by simp [go_sem]) ?_;refine (oa sb q .returning _ ((E.cell 8).trans hv) (E.frozen 8)).mono ?_;rintro e u' a3 ⟨rfl,rfl,rfl⟩;refine ⟨_,results_none rfl _ _ _,rfl,by simpa using E.set 8 (by decide) (.pointer none),?_⟩
 exact (((((aH.same m.out).mono (fun _ _ e=> .inl e):aH (fun k=>k=sb∨k=l) w _).trans (aH.same v.out) (fun _ _ e=> .inr e)).trans (aH.below s.out:aH (fun _=>False) _ _) (fun k _ e=>e.elim)).trans (aH.same x.out) (fun _ _ e=> .inr e) |>.trans (aH.same F) (fun _ _ e=> .inr e)).trans (aH.same W) (fun _ _ e=> .inl e)
theorem yD (sb b k:Nat) (C:Array Value) (c:List UInt8) (a:Int) (w:World) (h:bT w sb b C []) (j:C[8]? =some (.pointer (some ⟨k,0,none⟩))):
  Calls Tryz.prog 147 #[.pointer (some ⟨sb,0,none⟩),.string (bs c),.int .i64 a] w fun e f=>e= .returned (.tuple #[])∧bT f sb b C [[53,48,51,32,102,105,114,115,116,13,10]]∧aL b w f:=by
 have g:=Lib.hid (h.tell (by simp) [53,48,51,32,102,105,114,115,116] (by decide));have l:=(h.cell 8).trans j;clear h;go_enter Tryz.func147,Tryz.ntmps147;go_wp2_with fail
 refine g.out.mono ?_;rintro e m ⟨rfl,i,d⟩;go_wp2_with fail
 refine bodyPost_end (results_none rfl _ _ _) rfl ?_;exact ⟨rfl,i,d⟩
theorem yE (sb b f:Nat) (C:Array Value) (c:List UInt8) (a S:Int) (w:World) (h:bT w sb b C []) (l:C[8]? =some (.pointer none)) (j:C[0]? =some (.pointer (some ⟨f,0,none⟩))) (p:w.cell? ⟨f,5,none⟩=some (.int .i64 S)) (m:S < a):
  Calls Tryz.prog 147 #[.pointer (some ⟨sb,0,none⟩),.string (bs c),.int .i64 a] w fun e g=>e= .returned (.tuple #[])∧bT g sb b C [[53,53,50,32,115,105,122,101,13,10]]∧aL b w g:=by
 have i:=Lib.hid (h.tell (by simp) [53,53,50,32,115,105,122,101] (by decide));have o:=(h.cell 8).trans l;have n:=(h.cell 0).trans j;clear h;go_enter Tryz.func147,Tryz.ntmps147;go_wp2_with fail
 refine i.out.mono ?_;rintro e q ⟨rfl,k,d⟩;go_wp2_with fail
 refine bodyPost_end (results_none rfl _ _ _) rfl ?_;exact ⟨rfl,k,d⟩
theorem Ae (sb p D:Nat) (C:Array Value) (b:List UInt8) (f S:Int) (w:World) (h:bT w sb p C []) (B:C[8]? =some (.pointer none)) (F:C[0]? =some (.pointer (some ⟨D,0,none⟩))) (R:w.cell? ⟨D,5,none⟩=some (.int .i64 S)) (K:¬S < f):
  Calls Tryz.prog 147 #[.pointer (some ⟨sb,0,none⟩),.string (bs b),.int .i64 f] w fun e l=>e= .returned (.tuple #[])∧bT l sb p (C.setIfInBounds 8 (.pointer (some ⟨w.heap.size,0,none⟩))) [[50,53,48,32,111,107,13,10]]∧l.heap[w.heap.size]? =some (.cells #[.string (bs b),.slice none 0 0,.pointer none] 216 (0,0))∧(∀k,k < w.heap.size→k≠sb→k≠p→l.heap[k]? =w.heap[k]?)∧dU w l∧w.heap.size≤l.heap.size:=by
 have O:=(h.cell 8).trans B;have N:=(h.cell 0).trans F;have A:sb < w.heap.size:=(Array.getElem?_eq_some_iff.1 h.blk).1;have M:∀o:Obj,(w.alloc o).cell? ⟨sb,8,none⟩=some (.pointer none):=fun o=>by rw [Lib.cell_of_heap ((((Below.refl w.heap.size w).alloc (Nat.le_refl _) o).block sb A).trans h.blk)];exact B
 have P:∀o:Obj,(w.alloc o).frozen? ⟨sb,8,none⟩=false:=fun o=>Lib.frozen_of_heap ((((Below.refl w.heap.size w).alloc (Nat.le_refl _) o).block sb A).trans h.blk) 8;have m:aL sb w (w.setCell ⟨sb,8,none⟩ (.pointer (some ⟨w.heap.size,0,none⟩))):=(aL.refl _ _).setCell _;have t:=h.set 8 (by decide) (.pointer (some ⟨w.heap.size,0,none⟩));obtain ⟨i,j⟩:∃i:World,w.setCell ⟨sb,8,none⟩ (.pointer (some ⟨w.heap.size,0,none⟩))=i:=⟨_,rfl⟩;rw [j] at m t;obtain ⟨n,d⟩:∃n:World,i.alloc (.cells #[.string (bs b),.slice none 0 0,.pointer none] 216)=n:=⟨_,rfl⟩;have q:Below i.heap.size i n:=by rw [←d];exact (Below.refl _ _).alloc (Nat.le_refl _) _
 have z:n.heap[w.heap.size]? =some (.cells #[.string (bs b),.slice none 0 0,.pointer none] 216 (0,0)):=by rw [←d,←m.1];exact heap_alloc_new i _
 have E:=Lib.hid ((t.below q).tell (by simp) [50,53,48,32,111,107] (by decide));have y:p≠w.heap.size:=by obtain ⟨s,r,J⟩:=h.chan;have:=(Array.getElem?_eq_some_iff.1 J).1;omega
 have g:=Lib.hid m;have a:=Lib.hid q;have x:=Lib.hid z;have u:=Lib.hid j;have v:=Lib.hid d;clear h t q z j d m;go_enter Tryz.func147,Tryz.ntmps147;go_wp2_with fail
 rw [u.out,v.out];refine E.out.mono ?_;rintro e T ⟨rfl,H,c⟩;go_wp2_with fail
 refine bodyPost_end (results_none rfl _ _ _) rfl ?_;have L:i.heap.size=w.heap.size:=g.out.1;refine ⟨rfl,H,(c.2 _ (Ne.symm y)).trans x.out,fun k Q G I=>(c.2 k I).trans ((a.out.block k (by omega)).trans (g.out.2 k G)),(g.out.3.trans ⟨a.out.1,a.out.2,a.out.3⟩).trans c.3,?_⟩;rw [c.1];have:=a.out.size;omega
open Go.Conc Go.RowKit
theorem yJ {P:Program} {Q:Goroutine→World→Prop} {f:FuncId} {b:Array Value} {w:World} {R:Ending→World→Prop} {c:Frame} {g:List Frame} (h:Calls P f b w R) (n:∀a d,¬R (.panicked a) d) (m:∀d,¬R .outgrown d)
  (k:∀v d,R (.returned v) d→LoneTo P Q (G (c.finish v) g) d):LoneTo P Q (G (Frame.enter P f b .normal) (c::g)) w:=by
 obtain ⟨e,d,r,i,j,_,l⟩:=h (c::g)
 cases e with
 | returned v=>
  obtain ⟨g2,q,p,o⟩:=k v d i;exact ⟨g2,q,Steps.trans j (Steps.head (step_leave_returned l) p),o⟩
 | panicked a=>exact absurd i (n _ _)
 | outgrown=>exact absurd i (m _)
def oX:Option Code→Code
 | some (.block _ (.loop c))=>c
 | _=> .skip
def gE (f:Func):Code:=oX f.body
theorem F7 (q:List UInt8→World→Prop) (sb i:Nat) (u:Bool) (V:Value) (W:List Frame) (R:World→Prop)
  (X:∀a l w,q a w→l.length≤1048576→a.length+l.length≤140737488355328→Calls Tryz.prog 96 #[V,.string (bs l)] w fun e j=>(∃v,e= .returned v)∧q (a++l) j∧∀o,w.heap[i]? =some o→j.heap[i]? =some o)
  (d:∀a w,q a w→w.cell? ⟨sb,3,none⟩=some (.chan (some i)))
  (p:∀a w M y s r,q a w→w.heap[i]? =some (.chan 3 M false s r u)→q a (w.setChan i 3 y false s (r+1) u)):
  ∀(g:List (List UInt8)) (a:List UInt8) (w:World) (s r:Nat) (u2 u3 u4 u5 u6 u7 u8 u9 u10 u11 u12 u13 u14 u15:Value),q a w→w.heap[i]? =some (.chan 3 (g.map fun l=>Value.string (bs l)).toArray false s r u)→(∀l∈g,l.length≤1048576)→a.length+g.flatten.length≤140737488355328→
   (∀j U T,q (a++g.flatten) j→j.heap[i]? =some (.chan 3 #[] false U T u)→R j)→
   LoneTo Tryz.prog (fun g' j=>∃e N,g'=G N W∧(e= .returned (.tuple #[])∧R j)∧N.fn=63∧N.leaving Tryz.prog j e)
    (G ((base 63).at ⟨#[.pointer (some ⟨sb,0,none⟩),V,u2,u3,u4,u5,u6,u7,u8,u9,u10,u11,u12,u13,u14,u15],[]⟩ [.code (gE Tryz.f63),.inLoop (gE Tryz.f63),.inBlock 0]) W) w:=by
 intro g
 induction g with
 | nil=>
  intro a w s r u2 u3 u4 u5 u6 u7 u8 u9 u10 u11 u12 u13 u14 u15 t b _ _ K;have Y:=d a w t;have F:=K w s r (by simpa using t) (by simpa using b);simp only [List.map_nil] at b;clear X d p K;refine LoneTo.goes (n:=30) ?_;simp only [gE,oX,Tryz.f63]
  s_c stepG_block
  s_c stepG_seq
  s_reg
  s_op
  s_op
  s_op
  s_op
  s_c stepG_region_end
  s_c stepG_seq
  s_reg
  s_stop
  refine LoneTo.step (step_lone_select_default (c:=i) (z:= .string ⟨#[]⟩) (stepG_comm (cases:=#[rcase i (.string ⟨#[]⟩)]) (blocking:=false) (shape:= .select) (w':=w) rfl rfl (by decide) (by simp [go_sem,rcase,Act.eval,execOp])) b) ?_;rw [Frame.finish_at]
  walk_nrm
  refine LoneTo.goes (n:=20) ?_
  s_op
  s_op
  s_c stepG_region_end
  s_c stepG_block
  s_cond false
  s_c stepG_ret'
  s_stop
  exact LoneTo.done ⟨.returned (.tuple #[]),_,rfl,⟨rfl,F⟩,rfl,rfl,rfl,rfl,_,Tryz.func63,by simp [results,Tryz.f63,Frame.at]⟩
 | cons l g ih=>
  intro a w s r u2 u3 u4 u5 u6 u7 u8 u9 u10 u11 u12 u13 u14 u15 t b Z B K;have Y:=d a w t;have S:=Z l (List.mem_cons_self ..);have C:a.length+l.length≤140737488355328:=by rw [List.flatten_cons,List.length_append] at B;omega
  have D:(a++l).length+g.flatten.length≤140737488355328:=by rw [List.flatten_cons,List.length_append] at B;rw [List.length_append];omega
  have A:=p a w _ (g.map fun l=>Value.string (bs l)).toArray s r t b;have H:((((l::g).map fun l=>Value.string (bs l)).toArray).extract 1 (((l::g).map fun l=>Value.string (bs l)).toArray).size)=(g.map fun l=>Value.string (bs l)).toArray:=by simp [List.take_of_length_le]
  have I:((((l::g).map fun l=>Value.string (bs l)).toArray).getD 0 undef)= .string (bs l):=by simp
  have m:i < w.heap.size:=(Array.getElem?_eq_some_iff.1 b).1;refine LoneTo.goes (n:=30) ?_;simp only [gE,oX,Tryz.f63]
  s_c stepG_block
  s_c stepG_seq
  s_reg
  s_op
  s_op
  s_op
  s_op
  s_c stepG_region_end
  s_c stepG_seq
  s_reg
  s_stop
  refine LoneTo.step (step_lone_select_recv_buf (c:=i) (z:= .string ⟨#[]⟩) (stepG_comm (cases:=#[rcase i (.string ⟨#[]⟩)]) (blocking:=false) (shape:= .select) (w':=w) rfl rfl (by decide) (by simp [go_sem,rcase,Act.eval,execOp])) b (by simp)) ?_;rw [H,I];rw [Frame.finish_at]
  walk_nrm
  have k:=heap_setChan w i 3 (g.map fun l=>Value.string (bs l)).toArray false s (r+1) u m;obtain ⟨L,J⟩:∃L,w.setChan i 3 (g.map fun l=>Value.string (bs l)).toArray false s (r+1) u=L:=⟨_,rfl⟩;rw [J] at A k ⊢;clear J Y b t H I m;refine LoneTo.goes (n:=30) ?_
  s_op
  s_op
  s_c stepG_region_end
  s_c stepG_block
  s_cond true
  s_c stepG_seq
  s_reg
  s_op
  s_op
  s_c stepG_region_end
  s_reg
  s_op
  s_op
  s_stop
  refine LoneTo.step (step_solo_go rfl (stepG_enter (f:=96) (args:=#[V,.string (bs l)]) (w':=L) rfl rfl (by decide) (by simp [go_sem,Act.eval,execOp]))) ?_;refine yJ (X a l L A S C) (fun _ _ h=>by obtain ⟨⟨_,h⟩,_⟩:=h;cases h) (fun _ h=>by obtain ⟨⟨_,h⟩,_⟩:=h;cases h) fun v w2 O=>?_;obtain ⟨_,P,Q⟩:=O;have E:=Q _ k;rw [Frame.finish_at]
  walk_nrm
  refine LoneTo.goes (n:=30) ?_
  s_c stepG_region_end
  s_c stepG_inBlock
  s_c stepG_inBlock
  s_c stepG_inLoop
  s_stop
  exact ih (a++l) w2 s (r+1) _ _ _ _ _ _ _ _ _ _ _ _ _ _ P E (fun x hx=>Z x (List.mem_cons_of_mem _ hx)) D (fun j U T h1 O=>K j U T (by rw [List.flatten_cons,←List.append_assoc];exact h1) O)
theorem zB (b:List UInt8→World→Prop) (sb c s r:Nat) (j:Bool) (k:Value) (i:List (List UInt8)) (a:List UInt8) (w:World)
  (B:∀a l w,b a w→l.length≤1048576→a.length+l.length≤140737488355328→Calls Tryz.prog 96 #[k,.string (bs l)] w fun e f=>(∃v,e= .returned v)∧b (a++l) f∧∀o,w.heap[c]? =some o→f.heap[c]? =some o)
  (d:∀a w,b a w→w.cell? ⟨sb,3,none⟩=some (.chan (some c)))
  (h:∀a w m g s r,b a w→w.heap[c]? =some (.chan 3 m false s r j)→b a (w.setChan c 3 g false s (r+1) j))
  (A:b a w) (q:w.heap[c]? =some (.chan 3 (i.map fun l=>Value.string (bs l)).toArray false s r j)) (C:∀l∈i,l.length≤1048576) (p:a.length+i.flatten.length≤140737488355328):
  Calls Tryz.prog 63 #[.pointer (some ⟨sb,0,none⟩),k] w fun e f=>e= .returned (.tuple #[])∧∃u t,b (a++i.flatten) f∧f.heap[c]? =some (.chan 3 #[] false u t j):=by
 refine calls_of_loneTo fun x=>?_
 have e:Frame.enter Tryz.prog 63 #[.pointer (some ⟨sb,0,none⟩),k] .normal=(base 63).at ⟨#[.pointer (some ⟨sb,0,none⟩),k,undef,undef,undef,undef,undef,undef,undef,undef,undef,undef,undef,undef,undef,undef],[]⟩ [.code (.block 0 (.loop (gE Tryz.f63)))]:=by
  simp [Frame.enter,Frame.at,Tryz.func63,base,Tryz.f63,gE,oX]
 rw [e];refine LoneTo.goes (n:=2) ?_
 s_c stepG_block
 s_c stepG_loop
 s_stop
 exact F7 b sb c j k x _ B d h i a w s r _ _ _ _ _ _ _ _ _ _ _ _ _ _ A q C p (fun f u t y z=>⟨u,t,y,z⟩)
def D9 (f:FuncId):Frame:={base f with kind:= .deferred}
theorem DW (q:List UInt8→World→Prop) (sb i:Nat) (u:Bool) (V:Value) (W:List Frame) (R:World→Prop)
  (X:∀a l w,q a w→l.length≤1048576→a.length+l.length≤140737488355328→Calls Tryz.prog 96 #[V,.string (bs l)] w fun e j=>(∃v,e= .returned v)∧q (a++l) j∧∀o,w.heap[i]? =some o→j.heap[i]? =some o)
  (d:∀a w,q a w→w.cell? ⟨sb,3,none⟩=some (.chan (some i)))
  (p:∀a w M y s r,q a w→w.heap[i]? =some (.chan 3 M false s r u)→q a (w.setChan i 3 y false s (r+1) u)):
  ∀(g:List (List UInt8)) (a:List UInt8) (w:World) (s r:Nat) (u2 u3 u4 u5 u6 u7 u8 u9 u10 u11 u12 u13 u14 u15:Value),q a w→w.heap[i]? =some (.chan 3 (g.map fun l=>Value.string (bs l)).toArray false s r u)→(∀l∈g,l.length≤1048576)→a.length+g.flatten.length≤140737488355328→
   (∀j U T,q (a++g.flatten) j→j.heap[i]? =some (.chan 3 #[] false U T u)→R j)→
   LoneTo Tryz.prog (fun g' j=>∃e N,g'=G N W∧(e= .returned (.tuple #[])∧R j)∧N.kind= .deferred∧N.going Tryz.prog j e)
    (G ((D9 63).at ⟨#[.pointer (some ⟨sb,0,none⟩),V,u2,u3,u4,u5,u6,u7,u8,u9,u10,u11,u12,u13,u14,u15],[]⟩ [.code (gE Tryz.f63),.inLoop (gE Tryz.f63),.inBlock 0]) W) w:=by
 intro g
 induction g with
 | nil=>
  intro a w s r u2 u3 u4 u5 u6 u7 u8 u9 u10 u11 u12 u13 u14 u15 t b _ _ K;have Y:=d a w t;have F:=K w s r (by simpa using t) (by simpa using b);simp only [List.map_nil] at b;clear X d p K;refine LoneTo.goes (n:=30) ?_;simp only [gE,oX,Tryz.f63]
  s_c stepG_block
  s_c stepG_seq
  s_reg
  s_op
  s_op
  s_op
  s_op
  s_c stepG_region_end
  s_c stepG_seq
  s_reg
  s_stop
  refine LoneTo.step (step_lone_select_default (c:=i) (z:= .string ⟨#[]⟩) (stepG_comm (cases:=#[rcase i (.string ⟨#[]⟩)]) (blocking:=false) (shape:= .select) (w':=w) rfl rfl (by decide) (by simp [go_sem,rcase,Act.eval,execOp])) b) ?_;rw [Frame.finish_at]
  walk_nrm
  refine LoneTo.goes (n:=20) ?_
  s_op
  s_op
  s_c stepG_region_end
  s_c stepG_block
  s_cond false
  s_c stepG_ret'
  s_stop
  exact LoneTo.done ⟨.returned (.tuple #[]),_,rfl,⟨rfl,F⟩,rfl,rfl,rfl,_,Tryz.func63,by simp [results,Tryz.f63,Frame.at]⟩
 | cons l g ih=>
  intro a w s r u2 u3 u4 u5 u6 u7 u8 u9 u10 u11 u12 u13 u14 u15 t b Z B K;have Y:=d a w t;have S:=Z l (List.mem_cons_self ..);have C:a.length+l.length≤140737488355328:=by rw [List.flatten_cons,List.length_append] at B;omega
  have D:(a++l).length+g.flatten.length≤140737488355328:=by rw [List.flatten_cons,List.length_append] at B;rw [List.length_append];omega
  have A:=p a w _ (g.map fun l=>Value.string (bs l)).toArray s r t b;have H:((((l::g).map fun l=>Value.string (bs l)).toArray).extract 1 (((l::g).map fun l=>Value.string (bs l)).toArray).size)=(g.map fun l=>Value.string (bs l)).toArray:=by simp [List.take_of_length_le]
  have I:((((l::g).map fun l=>Value.string (bs l)).toArray).getD 0 undef)= .string (bs l):=by simp
  have m:i < w.heap.size:=(Array.getElem?_eq_some_iff.1 b).1;refine LoneTo.goes (n:=30) ?_;simp only [gE,oX,Tryz.f63]
  s_c stepG_block
  s_c stepG_seq
  s_reg
  s_op
  s_op
  s_op
  s_op
  s_c stepG_region_end
  s_c stepG_seq
  s_reg
  s_stop
  refine LoneTo.step (step_lone_select_recv_buf (c:=i) (z:= .string ⟨#[]⟩) (stepG_comm (cases:=#[rcase i (.string ⟨#[]⟩)]) (blocking:=false) (shape:= .select) (w':=w) rfl rfl (by decide) (by simp [go_sem,rcase,Act.eval,execOp])) b (by simp)) ?_;rw [H,I];rw [Frame.finish_at]
  walk_nrm
  have k:=heap_setChan w i 3 (g.map fun l=>Value.string (bs l)).toArray false s (r+1) u m;obtain ⟨L,J⟩:∃L,w.setChan i 3 (g.map fun l=>Value.string (bs l)).toArray false s (r+1) u=L:=⟨_,rfl⟩;rw [J] at A k ⊢;clear J Y b t H I m;refine LoneTo.goes (n:=30) ?_
  s_op
  s_op
  s_c stepG_region_end
  s_c stepG_block
  s_cond true
  s_c stepG_seq
  s_reg
  s_op
  s_op
  s_c stepG_region_end
  s_reg
  s_op
  s_op
  s_stop
  refine LoneTo.step (step_solo_go rfl (stepG_enter (f:=96) (args:=#[V,.string (bs l)]) (w':=L) rfl rfl (by decide) (by simp [go_sem,Act.eval,execOp]))) ?_;refine yJ (X a l L A S C) (fun _ _ h=>by obtain ⟨⟨_,h⟩,_⟩:=h;cases h) (fun _ h=>by obtain ⟨⟨_,h⟩,_⟩:=h;cases h) fun v w2 O=>?_;obtain ⟨_,P,Q⟩:=O;have E:=Q _ k;rw [Frame.finish_at]
  walk_nrm
  refine LoneTo.goes (n:=30) ?_
  s_c stepG_region_end
  s_c stepG_inBlock
  s_c stepG_inBlock
  s_c stepG_inLoop
  s_stop
  exact ih (a++l) w2 s (r+1) _ _ _ _ _ _ _ _ _ _ _ _ _ _ P E (fun x hx=>Z x (List.mem_cons_of_mem _ hx)) D (fun j U T h1 O=>K j U T (by rw [List.flatten_cons,←List.append_assoc];exact h1) O)
theorem xh (b:List UInt8→World→Prop) (sb c s r:Nat) (j:Bool) (y:Value) (i:List (List UInt8)) (a:List UInt8) (w:World) (m:List Frame)
  (D:∀a l w,b a w→l.length≤1048576→a.length+l.length≤140737488355328→Calls Tryz.prog 96 #[y,.string (bs l)] w fun e f=>(∃v,e= .returned v)∧b (a++l) f∧∀o,w.heap[c]? =some o→f.heap[c]? =some o)
  (d:∀a w,b a w→w.cell? ⟨sb,3,none⟩=some (.chan (some c)))
  (h:∀a w k g s r,b a w→w.heap[c]? =some (.chan 3 k false s r j)→b a (w.setChan c 3 g false s (r+1) j))
  (C:b a w) (t:w.heap[c]? =some (.chan 3 (i.map fun l=>Value.string (bs l)).toArray false s r j)) (E:∀l∈i,l.length≤1048576) (q:a.length+i.flatten.length≤140737488355328):
  LoneTo Tryz.prog (fun z f=>∃e p,z=G p m∧(e= .returned (.tuple #[])∧∃x u,b (a++i.flatten) f∧f.heap[c]? =some (.chan 3 #[] false x u j))∧p.kind= .deferred∧p.going Tryz.prog f e)
   (G ((D9 63).at ⟨#[.pointer (some ⟨sb,0,none⟩),y,undef,undef,undef,undef,undef,undef,undef,undef,undef,undef,undef,undef,undef,undef],[]⟩ [.code (.block 0 (.loop (gE Tryz.f63)))]) m) w:=by
 refine LoneTo.goes (n:=2) ?_
 s_c stepG_block
 s_c stepG_loop
 s_stop
 exact DW b sb c j y m _ D d h i a w s r _ _ _ _ _ _ _ _ _ _ _ _ _ _ C t E q (fun f x u A B=>⟨x,u,A,B⟩)
theorem vR (b:List UInt8→World→Prop) (sb d s r:Nat) (m:Bool) (n:Value) (k:List (List UInt8)) (a:List UInt8) (u:FrameMode) (w:World)
  (A:∀a l w,b a w→l.length≤1048576→a.length+l.length≤140737488355328→Calls Tryz.prog 96 #[n,.string (bs l)] w fun e g=>(∃v,e= .returned v)∧b (a++l) g∧∀o,w.heap[d]? =some o→g.heap[d]? =some o)
  (f:∀a w,b a w→w.cell? ⟨sb,3,none⟩=some (.chan (some d)))
  (j:∀a w p i s r,b a w→w.heap[d]? =some (.chan 3 p false s r m)→b a (w.setChan d 3 i false s (r+1) m))
  (z:b a w) (t:w.heap[d]? =some (.chan 3 (k.map fun l=>Value.string (bs l)).toArray false s r m)) (D:∀l∈k,l.length≤1048576) (q:a.length+k.flatten.length≤140737488355328):
  CallsD Tryz.prog 63 #[.pointer (some ⟨sb,0,none⟩),n] u w fun e u' g=>u'=u∧e= .returned (.tuple #[])∧∃H G,b (a++k.flatten) g∧g.heap[d]? =some (.chan 3 #[] false H G m):=by
 intro c x F;subst F
 have e:Frame.enter Tryz.prog 63 #[.pointer (some ⟨sb,0,none⟩),n] .deferred=(D9 63).at ⟨#[.pointer (some ⟨sb,0,none⟩),n,undef,undef,undef,undef,undef,undef,undef,undef,undef,undef,undef,undef,undef,undef],[]⟩ [.code (.block 0 (.loop (gE Tryz.f63)))]:=by
  simp [Frame.enter,Frame.at,Tryz.func63,D9,base,Tryz.f63,gE,oX]
 obtain ⟨_,g,E,I,y,rfl,⟨rfl,h⟩,C,B⟩:=xh b sb d s r m n k a w (c::x) A f j z t D q;rw [e];exact ⟨.returned (.tuple #[]),c.mode,g,y,⟨rfl,rfl,h⟩,E,C,B⟩
end Go.Proofs.YtofpegbpgkkgkaaGreatDoor
