import Derived.ProofKit
import Derived.OpenShut
import Derived.LaidMore
import Derived.Lay
import Derived.HandedShaped
import Derived.Shelf.Vars
import Derived.Test.YtofpegbpgkkgkaaGreatDoorS11
namespace Go.Proofs.YtofpegbpgkkgkaaGreatDoor
set_option maxHeartbeats 8000000
set_option maxRecDepth 1000000
open Go.RowKit
open Go.ChangeShapes Go.WideShapes Go.ChangeAt Go.RowKit
theorem own:ownKnob Tryz.prog.godebug=none:=by kernel_rfl
theorem oj {H:Type} {l:TypeId×Value→H} {a:Assume} {C:Checked} {K:Os} {f:FuncId} {n:Func} {s:ChangeSpec} {k:List PathCond} {c p h o:Bool} {X:World→Array Value→Prop}
  (O:∀(w L:World) (b:Array Value),w.heap=L.heap→X w b→X L b)
  (own:ownKnob C.prog.godebug=none) (q:K.Started) (u:C.prog.inits.idxOf? f=none) (F:C.prog.funcs[f]? =some n)
  (r:∃(w:World) (d:Tape) (i:Input),w.os=K∧(w.forCall d i).Shaped C.prog∧i.vars=[]∧Input.okWide C.prog (w.forCall d i) .any w.heap.size f i∧
   ((s.pre l C.prog n k c (w.forCall d i).memory i.args∧X (w.forCall d i).memory i.args)∧sizedMet l C.prog n (OpenSpec.ofChange s) c (w.forCall d i).memory i.args)∧a.holds C.prog (lone (Frame.enter C.prog f i.args .normal) [] (w.forCall d i)))
  (m:∀(W:World) (x:Nat) (b:Array Value) (y z:List (DataW H)) (g:List MemPlace),
   (∀(j:Nat) t v,n.params[j]? =some t→b[j]? =some v→Value.okWide C.prog W .any x t v)→
   DataW.Whole l C.prog n.params.toList s.vars c W b.toList y z g→
   k.all (PathCond.test C.prog ⟨n.params.toList,y,s.plain.varTypes C.prog,z⟩)=true→
   (DataW.weightsEach C.prog (n.params.toList++s.plain.varTypes C.prog) (y++z)).all (·≤reachBytes)=true→X W b→
   W.ShapedOpen C.prog→
   Calls C.prog f b W fun e M=>∃v,e= .returned v∧s.post l C.prog n c p h o W b v M):
  ReturnsInHanded a C K f .any (fun w b=>(s.pre l C.prog n k c w b∧X w b)∧sizedMet l C.prog n (OpenSpec.ofChange s) c w b) (s.post l C.prog n c p h o):=by
 refine returnsInHanded_of_calls own q u r ?_;intro w d i _ I _ G B _;obtain ⟨_,_,_,E,A,_,_,_,_,D⟩:=G;have e:E=n:=Option.some.inj (A.symm.trans F);subst e;obtain ⟨⟨⟨y,z,g,N,P⟩,Q⟩,R⟩:=B;have J:=DataW.Whole.of_heap (w':=w.forCall d i) (by rfl) N;refine (m (w.forCall d i) w.heap.size i.args y z g D J P (R.weights N) (O _ _ _ (by rfl) Q) I).mono fun e M ⟨v,he,hp⟩=>?_;subst he;exact ChangeSpec.post_blind hp
theorem zF {w:World} (h:w.ShapedOpen Tryz.prog):∃m,w.cell? ⟨0,0,none⟩=some (.int .i64 m):=
 cell_of_shapedOpen_int (zero:=#[.int .i64 0]) (t:=3) h (of_decide_eq_true (by kernel_rfl)) (by kernel_rfl) rfl (by kernel_rfl) (by kernel_rfl) Tryz.underlying3
theorem gl {P:Program} {w:World} {b:Array Oper} {o:Oper} {a:Act} {K:Act→World→Prop} {Q:Exit→Act→World→Prop} {E:Prop} (c:o.guard=none) (s x:Operand) (t u:TypeId)
  (e:o.op= .call {callee:= .builtin .append,args:=#[s,x],argTypes:=#[t,u]}) (v y r:Value) (d:World) (g:a.eval s=v) (j:a.eval x=y) (f:(Builtin.append_ #[t,u] o.type #[v,y]).run P w= .ok r d) (h:K (a.put o.dst r) d):
  if Region.wanted o (yielded b a.tmps)=true then Oper.wp P o a w K Q else E:=by
 have i:Region.wanted o (yielded b a.tmps)=true:=by simp [Region.wanted,c]
 rw [if_pos i];unfold Oper.wp execOp;simp only [e,resolve,invoke,builtin,Sem.run_bind,Sem.run_pure,Result.andThen_ok,List.map_toArray,List.map_cons,List.map_nil,g,j,f];exact h
structure dV where
 text:List UInt8
 has:Bool
 bad:Bool
def jq:List UInt8→List UInt8
 | []=>[]
 | x::l=>if x=46 then l else x::l
theorem tW (l:List UInt8):(jq l).length≤l.length:=by
 cases l with
 | nil=>exact Nat.le_refl _
 | cons x l=>
  show (if x=46 then l else x::l).length≤_
  split <;> simp
theorem tX (l:List UInt8):Lib.trimPrefix l [46]=jq l:=by
 cases l with
 | nil=>rfl
 | cons x l=>
  unfold Lib.trimPrefix Lib.hasPrefix jq
  by_cases h:x=46
  ·subst h;simp [List.isPrefixOf]
  ·have:(46:UInt8)≠x:=fun e=>h e.symm;simp [List.isPrefixOf,this,h]
def dV.add (B:dV) (t:List UInt8) (isBad:Bool) (size:Int):dV:=
 if size < (B.text.length:Int) then {B with bad:=B.bad || isBad} else ⟨(if B.has then B.text++[13,10] else B.text)++jq t,true,B.bad || isBad⟩
structure fV (w:World) (bb:Nat) (vt:Value) (B:dV):Prop where
 blk:w.heap[bb]? =some (.cells #[vt,.bool B.has,.bool B.bad] 253 (0,0))
 row:w.ownsRowF 0 5 1 vt B.text.length (Lib.byteCells B.text)
theorem Ce {w:World} {b i n:Nat} {e:TypeId} {v:Value} {j:List Value} (h:w.ownsRowF b e i v n j):∃a m c,v= .slice a m c:=by
 rcases h.2 with ⟨e,_⟩ | ⟨g,d,f,k,e,_⟩
 ·exact ⟨_,_,_,e⟩
 ·exact ⟨_,_,_,e⟩
theorem tD {w:World} {b j n:Nat} {e:TypeId} {v:Value} {k:List Value} (h:w.ownsRowF b e j v n k):∃a c,v= .slice a n c:=by
 rcases h.2 with ⟨e,i⟩ | ⟨g,d,f,l,e,_⟩
 ·exact ⟨none,0,by rw [e,i]⟩
 ·exact ⟨_,_,e⟩
theorem gi {w:World} {b j n g:Nat} {e:TypeId} {v:Value} {k:List Value} (h:w.ownsRowF b e j v n k) (a:v.ownBlock=some g):∃c z,w.heap[g]? =some (.cells c e z):=by
 rcases h.2 with ⟨d,_⟩ | ⟨m,f,c,l,d,_,i,_⟩
 ·rw [d] at a;cases a
 ·rw [d] at a;injection a with a;subst a;exact ⟨_,_,i⟩
theorem zW {A:Nat→Prop} {w i:World} {a f n:Nat} {e:TypeId} {v:Value} {j:List Value} (h:w.ownsRowF a e f v n j) (o:aF A w i) (p:∀g,v.ownBlock=some g→¬A g):i.ownsRowF a e f v n j:=by
 refine ⟨h.1,?_⟩
 rcases h.2 with h | ⟨g,b,c,m,d,k,l,r⟩
 ·exact .inl h
 ·exact .inr ⟨g,b,c,m,d,k,o.some_ l (p g (by rw [d];rfl)),r⟩
theorem fV.far {w:World} {a:Nat} {c:Value} {B:dV} (h:fV w a c B):c.ownBlock≠some a:=fun e=>by
 obtain ⟨d,z,b⟩:=gi h.row e;rw [h.blk] at b;simp at b
theorem fV.chg {A:Nat→Prop} {w d:World} {a:Nat} {b:Value} {B:dV} (h:fV w a b B) (c:aF A w d) (e:¬A a) (f:∀g,b.ownBlock=some g→¬A g):fV d a b B:=⟨c.some_ h.blk e,zW h.row c f⟩
theorem fV.app {w:World} {b:Nat} {g:Value} {B:dV} (h:fV w b g B) (l:List UInt8) (x:B.text.length+l.length≤140737488355328):
  ∃a n c o,(Builtin.append_ #[114,9] 114 #[g,.string (bs l)]).run Tryz.prog w= .ok (.slice a n c) o∧fV (o.setCell ⟨b,0,none⟩ (.slice a n c)) b (.slice a n c) ⟨B.text++l,B.has,B.bad⟩∧o.heap[b]? =some (.cells #[g,.bool B.has,.bool B.bad] 253 (0,0))∧aF (fun k=>g.ownBlock=some k) w o∧∀k,(Value.slice a n c).ownBlock=some k→g.ownBlock=some k∨w.heap.size≤k:=by
 obtain ⟨i,C,s,t,u⟩:=info_parts kI;have q:=aI l;obtain ⟨D,m,p,f,j,r⟩:=jA (P:=Tryz.prog) w 0 114 9 114 5 i Tryz.underlying114 Tryz.underlying9 C s t u g B.text.length (Lib.byteCells B.text) h.row (bs l) (by unfold maxLen;omega) (by omega) (Nat.zero_le _);obtain ⟨a,n,c,rfl⟩:=Ce f;have d:m.heap[b]? =some (.cells #[g,.bool B.has,.bool B.bad] 253 (0,0)):=(j.block b (ah h.blk) (fun e=>h.far e.symm)).trans h.blk;refine ⟨a,n,c,m,p,⟨heap_setCell_same m b 0 _ _ _ d,?_⟩,d,aF.grown j,r⟩;have y:aH b m (m.setCell ⟨b,0,none⟩ (.slice a n c)):=(aH.refl _ _).setCell _;rw [kE,List.length_append,←q];refine jT f y (fun e=>?_);obtain ⟨A,z,v⟩:=gi f e;rw [d] at v;simp at v
theorem De (b:Bool) (c:Nat) (n:Value) (d:List UInt8) (i:Bool) (t:List UInt8) (a:Bool) (g:Int) (w:World) (h:fV w c n ⟨d,i,b⟩) (hB:d.length≤1073741824) (ht:t.length≤1048576):
  Calls Tryz.prog 140 #[.pointer (some ⟨c,0,none⟩),.agg #[.string (bs t),.bool a],.int .i64 g] w fun e w'=>e= .returned (.tuple #[])∧∃a5,fV w' c a5 (dV.add ⟨d,i,b⟩ t a g)∧aF (fun k=>k=c∨n.ownBlock=some k) w w'∧∀k,a5.ownBlock=some k→n.ownBlock=some k∨w.heap.size≤k:=by
 obtain ⟨o,a1⟩:∃o:World,w.alloc (.cells #[.string (bs t),.bool a] 138)=o:=⟨_,rfl⟩;have T:Below w.heap.size w o:=by rw [←a1];exact (Below.refl _ _).alloc (Nat.le_refl _) _
 have I:o.heap[w.heap.size]? =some (.cells #[.string (bs t),.bool a] 138 (0,0)):=by rw [←a1];exact heap_alloc_new w _
 have bl:=ah h.blk;have p:c≠w.heap.size:=by omega
 have B:fV o c n ⟨d,i,b⟩:=h.chg (A:=fun _=>False) (aF.below T) (fun e=>e) (fun _ _ e=>e);have u:aH c o (o.setCell ⟨c,2,none⟩ (.bool (b || a))):=(aH.refl _ _).setCell _;have j:fV (o.setCell ⟨c,2,none⟩ (.bool (b || a))) c n ⟨d,i,b || a⟩:=⟨heap_setCell_same o c 2 _ _ (.bool (b || a)) B.blk,jT B.row u B.far⟩;have l0:o.cell? ⟨w.heap.size,0,none⟩=some (.string (bs t)):=by rw [Lib.cell_of_heap I];rfl
 have l1:o.cell? ⟨w.heap.size,1,none⟩=some (.bool a):=by rw [Lib.cell_of_heap I];rfl
 have c2:o.cell? ⟨c,2,none⟩=some (.bool b):=by rw [Lib.cell_of_heap B.blk];rfl
 have f2:=Lib.frozen_of_heap B.blk 2;obtain ⟨m,y⟩:∃m:World,o.setCell ⟨c,2,none⟩ (.bool (b || a))=m:=⟨_,rfl⟩;rw [y] at j u;have m0:m.cell? ⟨w.heap.size,0,none⟩=some (.string (bs t)):=(u.cell (Ne.symm p)).trans l0;have c0:m.cell? ⟨c,0,none⟩=some n:=by rw [Lib.cell_of_heap j.blk];rfl
 have c1:m.cell? ⟨c,1,none⟩=some (.bool i):=by rw [Lib.cell_of_heap j.blk];rfl
 have f0:=Lib.frozen_of_heap j.blk 0;have f1:=Lib.frozen_of_heap j.blk 1;obtain ⟨av,cv,ev⟩:=tD j.row;simp only at ev;have J:m.heap[w.heap.size]? =some (.cells #[.string (bs t),.bool a] 138 (0,0)):=(u.2 _ (Ne.symm p)).trans I;have R:aF (fun k=>k=c∨n.ownBlock=some k) w m:=(aF.below T).trans (aF.same u) (fun _ _ e=> .inl e);have b5:w.heap.size < m.heap.size:=by rw [u.1];exact ah I
 have a6:=Lib.hid j;have V:=Lib.hid R;have b3:=Lib.hid J;have Z:=Lib.hid (tW t)
 have a0:Hid (∀W:World,Calls Tryz.prog 197 #[.string (bs t),.string ⟨#[46]⟩] W fun e w'=>e= .returned (.string (bs (jq t)))∧W=w'):=Lib.hid (fun W=>(Tryz.strings_TrimPrefix (bs t) ⟨#[46]⟩ W).mono (by
  rintro e w' ⟨rfl,rfl⟩
  exact ⟨by rw [←tX];rfl,rfl⟩))
 by_cases O:g < (d.length:Int)
 ·have X:Hid (dV.add ⟨d,i,b⟩ t a g=⟨d,i,b || a⟩):=Lib.hid (by simp [dV.add,O]);clear h B j T I u J R;subst ev
  cases b
  all_goals
   simp only [Bool.true_or,Bool.false_or] at y;go_enter Tryz.func140,Tryz.ntmps140;go_wp2_with fail
   refine bodyPost_ret (v:= .tuple #[]) (by simp [results,Tryz.results140,go_sem]) rfl ?_;exact ⟨rfl,_,by rw [X.out];exact a6.out,V.out,fun k e=> .inl e⟩
 ·cases i with
  | false=>
   have X:Hid (dV.add ⟨d,false,b⟩ t a g=⟨d++jq t,true,b || a⟩):=Lib.hid (by simp [dV.add,O]);have s:fV (m.setCell ⟨c,1,none⟩ (.bool true)) c n ⟨d,true,b || a⟩:=⟨heap_setCell_same m c 1 _ _ (.bool true) j.blk,jT j.row ((aH.refl _ _).setCell _) j.far⟩;have x:aH c m (m.setCell ⟨c,1,none⟩ (.bool true)):=(aH.refl _ _).setCell _;obtain ⟨f,M⟩:∃f:World,m.setCell ⟨c,1,none⟩ (.bool true)=f:=⟨_,rfl⟩;rw [M] at s x;have X2:f.heap[w.heap.size]? =some (.cells #[.string (bs t),.bool a] 138 (0,0)):=(x.2 _ (Ne.symm p)).trans J;have n0:f.drew.cell? ⟨w.heap.size,0,none⟩=some (.string (bs t)):=by show f.cell? _=_;rw [Lib.cell_of_heap X2];rfl
   have d0:f.drew.cell? ⟨c,0,none⟩=some n:=by show f.cell? _=_;rw [Lib.cell_of_heap s.blk];rfl
   obtain ⟨a3,n3,c3,C,q,U,l,K3,r⟩:=fV.app (w:=f.drew) (s.chg (A:=fun _=>False) (aF.below ((Below.refl _ _).drew)) (fun e=>e) (fun _ _ e=>e)) (jq t) (by simp only;have:=Z.out;omega);have d3:C.cell? ⟨c,0,none⟩=some n:=by rw [Lib.cell_of_heap l];rfl
   have f3:=Lib.frozen_of_heap l 0;have Y:=Lib.hid x;have F:=Lib.hid U;have a7:=Lib.hid K3;have G:=Lib.hid q;have H:=Lib.hid r;clear h B j T I u J R s x X2 U K3 q r l;subst ev
   cases b
   all_goals
    simp only [Bool.true_or,Bool.false_or] at y;go_enter Tryz.func140,Tryz.ntmps140;go_wp2_with fail
    go_region_law (first
     | (refine gl rfl _ _ 114 9 rfl _ _ _ C rfl rfl G.out ?_)
     | (go_simp;go_at_call 197;refine (a0.out f.drew).mono ?_;rintro e w9 ⟨rfl,rfl⟩;dsimp only))
    all_goals
     go_wp2_with fail
     refine bodyPost_end (results_none rfl _ _ _) rfl ?_;refine ⟨rfl,_,by rw [X.out];exact F.out,?_,?_⟩
     ·exact ((V.out.trans (aF.same Y.out) (fun _ _ e=> .inl e)).trans ((aF.below ((Below.refl _ _).drew)).trans a7.out (fun k _ e=>e):aF (fun k=>(Value.slice av d.length cv).ownBlock=some k) f C) (fun _ _ e=> .inr e)).trans (aF.same ((aH.refl _ _).setCell _)) (fun _ _ e=> .inl e)
     ·exact fun k e=>(H.out k e).imp id (fun e=>by have:=Y.out.1;have:f.heap.size≤k:=e;omega)
  | true=>
   have X:Hid (dV.add ⟨d,true,b⟩ t a g=⟨d++[13,10]++jq t,true,b || a⟩):=Lib.hid (by simp [dV.add,O]);obtain ⟨K,Q,L,S,a2,E,N,K4,P⟩:=j.app [13,10] (by simp only [List.length_cons,List.length_nil];omega);have d4:S.cell? ⟨c,0,none⟩=some n:=by rw [Lib.cell_of_heap N];rfl
   have f4:=Lib.frozen_of_heap N 0;have S5:aH c S (S.setCell ⟨c,0,none⟩ (.slice K Q L)):=(aH.refl _ _).setCell _;obtain ⟨D,b0⟩:∃D:World,S.setCell ⟨c,0,none⟩ (.slice K Q L)=D:=⟨_,rfl⟩;rw [b0] at E S5;have d5:D.cell? ⟨c,1,none⟩=some (.bool true):=by rw [Lib.cell_of_heap E.blk];rfl
   have f5:=Lib.frozen_of_heap E.blk 1;have s:fV (D.setCell ⟨c,1,none⟩ (.bool true)) c (.slice K Q L) ⟨d++[13,10],true,b || a⟩:=⟨heap_setCell_same D c 1 _ _ (.bool true) E.blk,jT E.row ((aH.refl _ _).setCell _) E.far⟩;have x:aH c D (D.setCell ⟨c,1,none⟩ (.bool true)):=(aH.refl _ _).setCell _;obtain ⟨f,M⟩:∃f:World,D.setCell ⟨c,1,none⟩ (.bool true)=f:=⟨_,rfl⟩;rw [M] at s x;have K2:aF (fun k=>k=c∨n.ownBlock=some k) w f:=((R.trans K4 (fun _ _ e=> .inr e)).trans (aF.same S5) (fun _ _ e=> .inl e)).trans (aF.same x) (fun _ _ e=> .inl e)
   have X4:S.heap[w.heap.size]? =some (.cells #[.string (bs t),.bool a] 138 (0,0)):=K4.some_ J (fun e=>by
    obtain ⟨b4,z,h1⟩:=gi j.row e;rw [J] at h1
    simp at h1)
   have X2:f.heap[w.heap.size]? =some (.cells #[.string (bs t),.bool a] 138 (0,0)):=(x.2 _ (Ne.symm p)).trans ((S5.2 _ (Ne.symm p)).trans X4);have n0:f.drew.cell? ⟨w.heap.size,0,none⟩=some (.string (bs t)):=by show f.cell? _=_;rw [Lib.cell_of_heap X2];rfl
   have d0:f.drew.cell? ⟨c,0,none⟩=some (.slice K Q L):=by show f.cell? _=_;rw [Lib.cell_of_heap s.blk];rfl
   obtain ⟨a3,n3,c3,C,q,U,l,K3,r⟩:=fV.app (w:=f.drew) (s.chg (A:=fun _=>False) (aF.below ((Below.refl _ _).drew)) (fun e=>e) (fun _ _ e=>e)) (jq t) (by simp only [List.length_append,List.length_cons,List.length_nil];have:=Z.out;omega);have d3:C.cell? ⟨c,0,none⟩=some (.slice K Q L):=by rw [Lib.cell_of_heap l];rfl
   have f3:=Lib.frozen_of_heap l 0;have b2:w.heap.size≤f.heap.size:=K2.size;have b1:w.heap.size≤m.heap.size:=R.size;have KF:aF (fun k=>k=c∨n.ownBlock=some k) w C:=K2.trans ((aF.below ((Below.refl _ _).drew)).trans K3 (fun k _ e=>e):aF (fun k=>(Value.slice K Q L).ownBlock=some k) f C) (fun k hk e=>(P k e).elim (fun e=> .inr e) (fun e=>absurd hk (by omega)));have H:Hid (∀k,(Value.slice a3 n3 c3).ownBlock=some k→n.ownBlock=some k∨w.heap.size≤k):=Lib.hid (fun k e=>(r k e).elim (fun e=>(P k e).imp id (fun e=>by omega)) (fun e=> .inr (by have:f.heap.size≤k:=e;omega)));have F:=Lib.hid U;have a8:=Lib.hid KF;have G:=Lib.hid q;have a9:=Lib.hid a2;clear h B j T I u J R s x X2 U K3 q r l E N K4 P a2 S5 K2 X4 KF;subst ev
   cases b
   all_goals
    simp only [Bool.true_or,Bool.false_or] at y;go_enter Tryz.func140,Tryz.ntmps140
    go_wp2_with (first
     | (at_builtin;refine iz rfl _ _ 114 9 rfl _ (.slice K Q L) (bs [13,10]) S rfl rfl a9.out ?_)
     | fail)
    go_region_law (first
     | (refine gl rfl _ _ 114 9 rfl _ _ _ C rfl rfl G.out ?_)
     | (go_simp;go_at_call 197;refine (a0.out f.drew).mono ?_;rintro e w9 ⟨rfl,rfl⟩;dsimp only))
    all_goals
     go_wp2_with fail
     refine bodyPost_end (results_none rfl _ _ _) rfl ?_;exact ⟨rfl,_,by rw [X.out];exact F.out,a8.out.trans (aF.same ((aH.refl _ _).setCell _)) (fun _ _ e=> .inl e),H.out⟩
theorem yJ (c:Nat) (f:Value) (B:dV) (t:List UInt8) (a:Bool) (b:Int) (w:World) (h:fV w c f B) (m:B.text.length≤1073741824) (n:t.length≤1048576):
  Calls Tryz.prog 140 #[.pointer (some ⟨c,0,none⟩),.agg #[.string (bs t),.bool a],.int .i64 b] w fun e l=>e= .returned (.tuple #[])∧∃d,fV l c d (B.add t a b)∧aF (fun k=>k=c∨f.ownBlock=some k) w l∧∀k,d.ownBlock=some k→f.ownBlock=some k∨w.heap.size≤k:=by
 obtain ⟨j,i,g⟩:=B;exact De g c f j i t a b w h m n
end Go.Proofs.YtofpegbpgkkgkaaGreatDoor
