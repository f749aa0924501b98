import Derived.ProofKit
import Derived.OpenShut
import Derived.LaidMore
import Derived.Lay
import Derived.HandedShaped
import Derived.Shelf.Vars
import Derived.Test.YtofpegbpgkkgkaaGreatDoorS20
namespace Go.Proofs.YtofpegbpgkkgkaaGreatDoor
set_option maxHeartbeats 8000000
set_option maxRecDepth 1000000
open Go.ChangeShapes Go.WideShapes Go.ChangeAt Go.RowKit
theorem own:ownKnob Tryz.prog.godebug=none:=by kernel_rfl
theorem pe {H:Type} {l:TypeId×Value→H} {a:Assume} {C:Checked} {K:Os} {f:FuncId} {n:Func} {s:ChangeSpec} {k:List PathCond} {c p h o:Bool} {X:World→Array Value→Prop}
  (O:∀(w L:World) (b:Array Value),w.heap=L.heap→X w b→X L b)
  (own:ownKnob C.prog.godebug=none) (q:K.Started) (u:C.prog.inits.idxOf? f=none) (F:C.prog.funcs[f]? =some n)
  (r:∃(w:World) (d:Tape) (i:Input),w.os=K∧(w.forCall d i).Shaped C.prog∧i.vars=[]∧Input.okWide C.prog (w.forCall d i) .any w.heap.size f i∧
   ((s.pre l C.prog n k c (w.forCall d i).memory i.args∧X (w.forCall d i).memory i.args)∧sizedMet l C.prog n (OpenSpec.ofChange s) c (w.forCall d i).memory i.args)∧a.holds C.prog (lone (Frame.enter C.prog f i.args .normal) [] (w.forCall d i)))
  (m:∀(W:World) (x:Nat) (b:Array Value) (y z:List (DataW H)) (g:List MemPlace),
   (∀(j:Nat) t v,n.params[j]? =some t→b[j]? =some v→Value.okWide C.prog W .any x t v)→
   DataW.Whole l C.prog n.params.toList s.vars c W b.toList y z g→
   k.all (PathCond.test C.prog ⟨n.params.toList,y,s.plain.varTypes C.prog,z⟩)=true→
   (DataW.weightsEach C.prog (n.params.toList++s.plain.varTypes C.prog) (y++z)).all (·≤reachBytes)=true→X W b→
   W.ShapedOpen C.prog→
   Calls C.prog f b W fun e M=>∃v,e= .returned v∧s.post l C.prog n c p h o W b v M):
  ReturnsInHanded a C K f .any (fun w b=>(s.pre l C.prog n k c w b∧X w b)∧sizedMet l C.prog n (OpenSpec.ofChange s) c w b) (s.post l C.prog n c p h o):=by
 refine returnsInHanded_of_calls own q u r ?_;intro w d i _ I _ G B _;obtain ⟨_,_,_,E,A,_,_,_,_,D⟩:=G;have e:E=n:=Option.some.inj (A.symm.trans F);subst e;obtain ⟨⟨⟨y,z,g,N,P⟩,Q⟩,R⟩:=B;have J:=DataW.Whole.of_heap (w':=w.forCall d i) (by rfl) N;refine (m (w.forCall d i) w.heap.size i.args y z g D J P (R.weights N) (O _ _ _ (by rfl) Q) I).mono fun e M ⟨v,he,hp⟩=>?_;subst he;exact ChangeSpec.post_blind hp
theorem Bh {w:World} (h:w.ShapedOpen Tryz.prog):∃m,w.cell? ⟨0,0,none⟩=some (.int .i64 m):=
 cell_of_shapedOpen_int (zero:=#[.int .i64 0]) (t:=3) h (of_decide_eq_true (by kernel_rfl)) (by kernel_rfl) rfl (by kernel_rfl) (by kernel_rfl) Tryz.underlying3
open Go.RowKit
theorem ll.grow {w b:World} {sb:Nat} {C:Array Value} {v a:Value} {l i:List UInt8} (h:ll w sb C v l) (m:aH (fun k=>v.ownBlock=some k) w b) (f:lF b a i):ll (b.setCell ⟨sb,2,none⟩ a) sb (C.setIfInBounds 2 a) a i:=by
 have d:=m.some_ h.blk h.far;refine ⟨heap_setCell_same b sb 2 _ _ a d,by rw [Array.size_setIfInBounds];exact h.size,by rw [Array.getElem?_setIfInBounds_self_of_lt (by have:=h.size;omega)],bC f (aH.same ((aL.refl sb b).setCell _)) (fun g n e=>?_)⟩
 obtain ⟨j,c⟩:=dm f n;rw [e,d] at c;simp at c
theorem oI.fin {sb n:Nat} {C r:Array Value} {v i j:Value} {x:List UInt8} {w m h l y:World} {D:Array Value} (d:aH (fun k=>k=sb∨v.ownBlock=some k) w m) (c:Below m.heap.size m h) (s:∀k,i.ownBlock=some k→v.ownBlock=some k∨w.heap.size≤k) (b:r=C.setIfInBounds 2 i) (a:ll l sb (r.setIfInBounds 2 j) j x) (p:aH (fun k=>k=sb∨i.ownBlock=some k) h l) (q:∀k,j.ownBlock=some k→i.ownBlock=some k∨h.heap.size≤k) (A:w.heap.size≤n) (t:l.heap[n]? =some (.cells D 138 (0,0))) (o:aL n l y):oI sb C v x w y:=by
 have E:w.heap.size≤h.heap.size:=Nat.le_trans d.size c.size;refine ⟨j,⟨?_,?_,?_,?_⟩,?_,fun k f=>(q k f).elim (s k) (fun e=> .inr (by omega))⟩
 ·have:=(o.2 sb (fun e=>by have:=a.blk;rw [e,t] at this;simp at this)).trans a.blk;rw [b,Array.setIfInBounds_setIfInBounds] at this;exact this
 ·have:=a.size;rw [b] at this;simpa using this
 ·have:=a.at2;rw [b,Array.setIfInBounds_setIfInBounds] at this;exact this
 ·exact bC a.row (aH.same o) (fun g B e=>by
   obtain ⟨z,u⟩:=dm a.row B;rw [e,t] at u
   simp at u)
 ·exact ((d.trans (aH.below c:aH (fun _=>False) _ _) (fun _ _ e=>e.elim)).trans p (fun k f e=>e.elim .inl (fun e=>(s k e).elim .inr (fun e=>absurd f (by omega))))).trans (aH.same o) (fun k f e=>absurd f (by omega))
theorem B7 {A:Nat→Prop} {w b:World} {g h:Nat} (a:Lib.Utf8Tabs g h w) (c:aH A w b) (n:¬A g) (p:¬A h):Lib.Utf8Tabs g h b:=by
 have j:g < w.heap.size:=eI (a.1 0 (by decide));have l:h < w.heap.size:=eI (a.2 0 (by decide)).1;have m:∀o,b.cell? ⟨g,o,none⟩=w.cell? ⟨g,o,none⟩:=fun o=>World.cell?_of_block (c.block _ j n);have e:∀o,b.cell? ⟨h,o,none⟩=w.cell? ⟨h,o,none⟩:=fun o=>World.cell?_of_block (c.block _ l p);exact ⟨fun k f=>(m k).trans (a.1 k f),fun i d=>⟨(e _).trans (a.2 i d).1,(e _).trans (a.2 i d).2⟩⟩
theorem IC (sb:Nat) (C:Array Value) (v:Value) (l:List UInt8) (b:UInt8) (w:World) (h:ll w sb C v l) (hl:l.length≤102) (hu:Lib.Utf8Tabs 2 3 w) (d7:¬(2=sb∨v.ownBlock=some 2)) (u:¬(3=sb∨v.ownBlock=some 3)):
  Calls Tryz.prog 66 #[.pointer (some ⟨sb,2,none⟩),.int .u8 (b.toNat:Int)] w fun e w'=>e= .returned (th (j4 l b).2)∧oI sb C v (j4 l b).1 w w':=by
 obtain ⟨q,I⟩:∃q:World,w.alloc (.cells #[.string ⟨#[]⟩,.bool false] 138)=q:=⟨_,rfl⟩;have B0:Below w.heap.size w q:=by rw [←I];exact (Below.refl _ _).alloc (Nat.le_refl _) _
 have X0:q.heap[w.heap.size]? =some (.cells #[.string ⟨#[]⟩,.bool false] 138 (0,0)):=by rw [←I];exact heap_alloc_new w _
 have d8:q.heap.size=w.heap.size+1:=by rw [←I];simp
 have p:=h.below B0;have e0:=Utf8Tabs_below hu B0;have c6:q.cell? ⟨sb,2,none⟩=some v:=by rw [Lib.cell_of_heap p.blk];exact p.at2
 have c2:∀o:Obj,(q.alloc o).cell? ⟨sb,2,none⟩=some v:=fun o=>by rw [Lib.cell_of_heap (ae ((Below.refl _ q).alloc (Nat.le_refl _) o) p.blk)];exact p.at2
 obtain ⟨i,hi,e1,e2,e4⟩:=info_parts lx;obtain ⟨g,a,X,T,b1,V,O1⟩:=pv (P:=Tryz.prog) Tryz.underlying114 hi e1 e2 e4 rfl q (q.alloc (.cells #[.int .u8 (b.toNat:Int)] 5)) v (.int .u8 (b.toNat:Int)) l.length (Lib.byteCells l) p.row rfl ((Below.refl _ _).alloc (Nat.le_refl _) _) (heap_alloc_new q _) (by unfold maxLen;omega) (by omega)
 have R1:lF X (.slice (some ⟨g,0,none⟩) (l.length+1) a) (l++[b]):=by
  have e:Lib.byteCells (l++[b])=Lib.byteCells l++[.int .u8 (b.toNat:Int)]:=by simp [Lib.byteCells]
  unfold lF;rw [e,List.length_append];exact b1
 have c7:X.cell? ⟨sb,2,none⟩=some v:=by rw [Lib.cell_of_heap (V.some_ p.blk p.far)];exact p.at2
 have d0:=Lib.frozen_of_heap (V.some_ p.blk p.far) 2;have N:=p.grow V R1;have S2:aL sb X (X.setCell ⟨sb,2,none⟩ (.slice (some ⟨g,0,none⟩) (l.length+1) a)):=(aL.refl _ _).setCell _;obtain ⟨m,a8⟩:∃m:World,X.setCell ⟨sb,2,none⟩ (.slice (some ⟨g,0,none⟩) (l.length+1) a)=m:=⟨_,rfl⟩;rw [a8] at N S2
 have X2:m.heap[w.heap.size]? =some (.cells #[.string ⟨#[]⟩,.bool false] 138 (0,0)):=(S2.2 _ (by have:=ah h.blk;omega)).trans (V.some_ X0 (fun e=>by
  obtain ⟨Q,hq⟩:=dm p.row e;rw [X0] at hq
  simp at hq))
 have K2:aH (fun k=>k=sb∨v.ownBlock=some k) w m:=(((aH.below B0:aH (fun k=>k=sb∨v.ownBlock=some k) w q)).trans V (fun _ _ e=> .inr e)).trans (aH.same S2) (fun _ _ e=> .inl e);have b3:Lib.Utf8Tabs 2 3 m:=B7 hu K2 d7 u;have S:=Lib.run_convert_bytes_const (P:=Tryz.prog) m 114 5 #[.int .u8 13,.int .u8 10] 2 2 Tryz.underlying114 Tryz.underlying5;rw [show (#[Value.int .u8 13,Value.int .u8 10]:Array Value).size=2 from rfl] at S;have U:Below m.heap.size m (m.alloc (.cells #[.int .u8 13,.int .u8 10] 5 (2,3))):=(Below.refl _ _).alloc (Nat.le_refl _) _;have E3:=heap_alloc_new m (.cells #[.int .u8 13,.int .u8 10] 5 (2,3));obtain ⟨W3,a9⟩:∃W3:World,m.alloc (.cells #[.int .u8 13,.int .u8 10] 5 (2,3))=W3:=⟨_,rfl⟩;rw [a9] at S U E3;have A3:=N.below U;have X3:=ae U X2;have b4:=Utf8Tabs_below b3 U
 have s:(l++[b]).length≤a:=by
  obtain ⟨g',a7,Q,e,_,p1,_⟩:=R1.parts (by simp);injection e with _ _ e;omega
 have c8:m.cell? ⟨sb,2,none⟩=some (.slice (some ⟨g,0,none⟩) (l.length+1) a):=by rw [Lib.cell_of_heap N.blk];exact N.at2
 have a6:∀o:Obj,(m.alloc o).cell? ⟨sb,2,none⟩=some (.slice (some ⟨g,0,none⟩) (l.length+1) a):=fun o=>by rw [Lib.cell_of_heap (N.below ((Below.refl _ m).alloc (Nat.le_refl _) o)).blk];exact N.at2
 have G:=lF.by A3.row
 have H:=wD (l++[b]) g a m.heap.size W3 G s (by simp;omega) E3;have f:Hid (j4 l b=if pK (l++[b]) then ([],some (jw ((l++[b]).take ((l++[b]).length - 2)))) else (lk (l++[b]),none)):=Lib.hid rfl;obtain ⟨c,r⟩:∃c,l++[b]=c:=⟨_,rfl⟩;have J:c.length=l.length+1:=by rw [←r];simp
 rw [r] at A3 s G H f;rw [J] at H s;rw [d8] at T;have c4:=Lib.hid T;have a2:=Lib.hid K2;have B:=Lib.hid A3;have a0:=Lib.hid U;have E:=Lib.hid X3;have c5:=Lib.hid b4;have b8:=Lib.hid G;have a1:=Lib.hid H
 have HO:Hid (∀k,(Value.slice (some ⟨g,0,none⟩) (l.length+1) a).ownBlock=some k→v.ownBlock=some k∨w.heap.size≤k):=Lib.hid (fun k e=>by
  injection e with e;have e:g=k:=e;subst e
  exact O1.imp id (fun e=>by omega))
 have HC:=Lib.hid h.size;obtain ⟨av,cv,ev⟩:=aE (aF h.row);subst ev;clear h hu p e0 X0 B0 T b1 V O1 R1 N S2 X2 K2 b3 U E3 A3 X3 b4 G H r;go_enter Tryz.func66,Tryz.ntmps66
 go_wp2_with (first
  | (at_builtin;refine bB rfl _ _ 114 rfl _ _ (.slice (some ⟨g,0,none⟩) (l.length+1) a) X rfl rfl c4.out ?_)
  | fail)
 refine a1.out.mono ?_;rintro e w4 ⟨rfl,rfl⟩;obtain ⟨t,et⟩:∃t,pK c=t:=⟨_,rfl⟩;rw [et] at f ⊢;clear a1 et S c6 c2 c7 d0 c8 a6 I a8 a9
 cases t with
 | false=>
  simp only [Bool.false_eq_true,if_false] at f ⊢;have a3:=Lib.hid (BJ sb _ _ c w4 B.out (by omega) (by omega));go_wp2_with fail
  refine a3.out.mono ?_;rintro e d ⟨rfl,v5,n,K5,O5⟩
  have z:=K5.some_ E.out (fun e=>by
   rcases e with e | e
   ·have:=B.out.blk;rw [←e,E.out] at this;simp at this
   ·obtain ⟨Q,hq⟩:=dm B.out.row e;rw [E.out] at hq
    simp at hq)
  have p0:d.cell? ⟨w.heap.size,0,none⟩=some (.string ⟨#[]⟩):=by rw [Lib.cell_of_heap z];rfl
  have p1:d.cell? ⟨w.heap.size,1,none⟩=some (.bool false):=by rw [Lib.cell_of_heap z];rfl
  have q0:=Lib.frozen_of_heap z 0;have q1:=Lib.frozen_of_heap z 1;have a4:=Lib.hid z;have b5:=Lib.hid n;have c0:=Lib.hid K5;have c3:=Lib.hid O5;clear z n K5 O5 a3;go_wp2_with fail
  obtain ⟨r0,r1,rS⟩:=qC (x:= .string ⟨#[]⟩) (y:= .bool false) a4.out;refine bodyPost_ret (v:= .tuple #[.agg #[.string ⟨#[]⟩,.bool false],.bool false]) (by simp [results,Tryz.results66,go_sem,r0,r1]) rfl ?_;rw [f.out];exact ⟨rfl,oI.fin a2.out a0.out HO.out rfl b5.out c0.out c3.out (Nat.le_refl _) a4.out rS⟩
 | true=>
  simp only [if_true] at f ⊢;obtain ⟨L,u⟩:∃L,l.length+1 - 2=L:=⟨_,rfl⟩;rw [u];have M:Hid (j4 l b=([],some (jw (c.take L)))):=Lib.hid (by rw [f.out,J,u]);have b2:(c.take L).length=L:=by rw [List.length_take];omega
  have b0:qF w4 g (c.take L):=fun j hj=>by
   have d5:j < L:=by omega
   rw [b8.out j (by omega),List.getD_eq_getElem?_getD,List.getD_eq_getElem?_getD,List.getElem?_take_of_lt d5]
  have R:=AY (c.take L) g a w4 b0 (by omega) (by omega) c5.out;rw [b2] at R;have D:=Lib.hid R;obtain ⟨x,ex⟩:∃x,jw (c.take L)=x:=⟨_,rfl⟩;rw [ex] at D M;obtain ⟨tx,Z⟩:=x;simp only at D;clear R b0 ex b2 u f;go_wp2_with fail
  refine D.out.mono ?_;rintro e d ⟨rfl,K⟩;have n:=B.out.below K;have z:=ae K E.out;have d2:∀o:Obj,(d.alloc o).cell? ⟨sb,2,none⟩=some (.slice (some ⟨g,0,none⟩) (l.length+1) a):=fun o=>by rw [Lib.cell_of_heap (n.below ((Below.refl _ d).alloc (Nat.le_refl _) o)).blk];exact n.at2
  have c9:d.cell? ⟨sb,2,none⟩=some (.slice (some ⟨g,0,none⟩) (l.length+1) a):=by rw [Lib.cell_of_heap n.blk];exact n.at2
  have g2:=Lib.frozen_of_heap n.blk 2;have d1:∀o:Obj,(d.alloc o).frozen? ⟨sb,2,none⟩=false:=fun o=>Lib.frozen_of_heap (n.below ((Below.refl _ d).alloc (Nat.le_refl _) o)).blk 2;have B6:Below d.heap.size d (d.alloc (.cells #[.string (bs tx),.bool Z] 138)):=(Below.refl _ _).alloc (Nat.le_refl _) _;obtain ⟨O,d3⟩:∃O:World,d.alloc (.cells #[.string (bs tx),.bool Z] 138)=O:=⟨_,rfl⟩;have L6:=heap_alloc_new d (.cells #[.string (bs tx),.bool Z] 138);rw [d3] at B6 L6;have A:=n.below B6;have X6:=ae B6 z;have d6:O.cell? ⟨sb,2,none⟩=some (.slice (some ⟨g,0,none⟩) (l.length+1) a):=by rw [Lib.cell_of_heap A.blk];exact A.at2
  have g6:=Lib.frozen_of_heap A.blk 2;have W:aL sb O (O.setCell ⟨sb,2,none⟩ (.slice (some ⟨g,0,none⟩) 0 a)):=(aL.refl _ _).setCell _;have b7:=heap_setCell_same O sb 2 _ _ (.slice (some ⟨g,0,none⟩) 0 a) A.blk;obtain ⟨F,d4⟩:∃F:World,O.setCell ⟨sb,2,none⟩ (.slice (some ⟨g,0,none⟩) 0 a)=F:=⟨_,rfl⟩;rw [d4] at W b7;have d9:sb≠w.heap.size:=fun e=>by have:=n.blk;rw [e,z] at this;simp at this
  have Y:=(W.2 _ (Ne.symm d9)).trans X6;have L7:=(W.2 _ (by have:=ah n.blk;omega)).trans L6;have t0:F.cell? ⟨d.heap.size,0,none⟩=some (.string (bs tx)):=by rw [Lib.cell_of_heap L7];rfl
  have t1:F.cell? ⟨d.heap.size,1,none⟩=some (.bool Z):=by rw [Lib.cell_of_heap L7];rfl
  have R7:lF F (.slice (some ⟨g,0,none⟩) 0 a) []:=by
   obtain ⟨g',a7,Q,e,hg,p1,p2,p3,p4⟩:=A.row.parts (fun e=>by rw [e] at J;simp at J);injection e with e _ e3;injection e with e;injection e with e _;subst e e3;exact lF.mk (l:=[]) ((W.2 g (fun e=>A.far (by rw [←e];rfl))).trans hg) (Nat.zero_le _) p2 p3 rfl
  have p0:F.cell? ⟨w.heap.size,0,none⟩=some (.string ⟨#[]⟩):=by rw [Lib.cell_of_heap Y];rfl
  have p1:F.cell? ⟨w.heap.size,1,none⟩=some (.bool false):=by rw [Lib.cell_of_heap Y];rfl
  have q0:=Lib.frozen_of_heap Y 0;have q1:=Lib.frozen_of_heap Y 1;have A7:ll F sb ((C.setIfInBounds 2 (.slice (some ⟨g,0,none⟩) (l.length+1) a)).setIfInBounds 2 (.slice (some ⟨g,0,none⟩) 0 a)) (.slice (some ⟨g,0,none⟩) 0 a) []:=⟨b7,by rw [Array.size_setIfInBounds];exact A.size,by rw [Array.getElem?_setIfInBounds_self_of_lt (by have:=A.size;omega)],R7⟩
  have K7:aH (fun k=>k=sb∨(Value.slice (some ⟨g,0,none⟩) (l.length+1) a).ownBlock=some k) w4 F:=((aH.below K:aH (fun k=>k=sb∨(Value.slice (some ⟨g,0,none⟩) (l.length+1) a).ownBlock=some k) w4 d).trans (aH.below B6:aH (fun _=>False) _ _) (fun _ _ e=>e.elim)).trans (aH.same W) (fun _ _ e=> .inl e);have b6:=Lib.hid A7;have a5:=Lib.hid Y;have c1:=Lib.hid K7;clear n z K D W b7 X6 R7 B6 Y A A7 K7 d2 d1 c9 g2 L6 L7;go_wp2_with fail
  obtain ⟨r0,r1,rS⟩:=qC (x:= .string (bs tx)) (y:= .bool Z) a5.out;refine bodyPost_ret (v:= .tuple #[.agg #[.string (bs tx),.bool Z],.bool true]) (by simp [results,Tryz.results66,go_sem,r0,r1]) rfl ?_;rw [M.out];exact ⟨rfl,oI.fin a2.out a0.out HO.out rfl b6.out c1.out (fun k e=> .inl e) (Nat.le_refl _) a5.out rS⟩
def jF (l:List (List UInt8)) (t:List UInt8):List (List UInt8):=if l.contains t then l else l++[t]
theorem xM (x:Int) (w:World):Calls Tryz.prog 172 #[.int .i64 x] w fun e a=>e= .returned (.bool false)∧w=a:=by
 have h:(x != x)=false:=by simp
 go_enter Tryz.func172,Tryz.ntmps172;go_wp2_with fail
 go_ret;exact ⟨by simp,rfl⟩
theorem Am (x y:Int) (w:World):Calls Tryz.prog 122 #[.int .i64 x,.int .i64 y] w fun e d=>(∃r:Int,e= .returned (.int .i64 r))∧w=d:=by
 have b:=Lib.hid (fun w=>xM x w);have c:=Lib.hid (fun w=>xM y w)
 by_cases f:x < y
 ·go_enter Tryz.func122,Tryz.ntmps122;go_wp2_with fail
  refine (b.out w).mono ?_;rintro e a ⟨rfl,rfl⟩;go_wp2_with fail
  refine (c.out w).mono ?_;rintro e a ⟨rfl,rfl⟩;go_wp2_with fail
  go_ret;exact ⟨⟨_,rfl⟩,rfl⟩
 ·by_cases g:y < x
  ·go_enter Tryz.func122,Tryz.ntmps122;go_wp2_with fail
   refine (b.out w).mono ?_;rintro e a ⟨rfl,rfl⟩;go_wp2_with fail
   refine (c.out w).mono ?_;rintro e a ⟨rfl,rfl⟩;go_wp2_with fail
   go_ret;exact ⟨⟨_,rfl⟩,rfl⟩
  ·go_enter Tryz.func122,Tryz.ntmps122;go_wp2_with fail
   refine (b.out w).mono ?_;rintro e a ⟨rfl,rfl⟩;go_wp2_with fail
   refine (c.out w).mono ?_;rintro e a ⟨rfl,rfl⟩;go_wp2_with fail
   go_ret;exact ⟨⟨_,rfl⟩,rfl⟩
theorem J2 (g:Nat) (w:World) (h:∀k,k < 2→∃r:Int,w.cell? ⟨g,k,none⟩=some (.int .i64 r)):
  Calls Tryz.prog 121 #[.slice (some ⟨g,0,none⟩) 2 2] w fun e d=>(∃r:Int,e= .returned (.int .i64 r))∧w=d:=by
 have l:=Lib.hid h;clear h;go_enter Tryz.func121,Tryz.ntmps121;go_wp2_with fail
 go_loopw [5,8] (fun _ i d=>∃k:Nat,k≤2∧i= .int .i64 k∧Hid (w=d)) (fun _ i _=>2 - (intOf i).toNat)
 case atStart=>exact ⟨0,by omega,rfl,Lib.hid (by trivial)⟩
 case round=>
  obtain ⟨k,n,rfl,f⟩:=hrel;have m:=f.out;subst m;clear f
  by_cases c:k < 2
  ·have j:(k:Int) < 2:=by omega
   obtain ⟨r,o⟩:=l.out k c
   by_cases a:r=0
   ·subst a;go_wp2_with fail
    exact ⟨⟨k+1,by omega,by go_num,Lib.hid (by trivial)⟩,by simp [intOf];omega⟩
   ·have a:(r != 0)=true:=by simpa using a
    go_wp2_with fail
    go_ret;exact ⟨⟨_,rfl⟩,rfl⟩
  ·have b:k=2:=by omega
   subst b;go_wp2_with fail
   go_ret;exact ⟨⟨_,rfl⟩,rfl⟩
theorem tY (d s g:Nat) (q:Nat→Nat) (A:Value) (S:bp) (i j:Nat) (w:World) (h:bh d w s g q A S) (I:S.items.length≤4294967295) (f:i∈S.live) (o:j∈S.live):
  Calls Tryz.prog 81 #[.pointer (some ⟨s,0,none⟩),.int .i64 ((i:Int)+1),.int .i64 ((j:Int)+1)] w fun e u=>(∃r:Int,e= .returned (.int .i64 r))∧Below w.heap.size w u:=by
 have n:=bq f;have p:=bq o;have c:∀i∈S.live,i < 4294967296:=fun i f=>by have:=bq f;omega
 obtain ⟨_,L,C,v,_⟩:=h.mail i f;obtain ⟨_,M,D,z,_⟩:=h.mail j o;have E:w.drew.cell? ⟨s,3,none⟩=some (.map (some g)):=by show w.cell? _=_;rw [Lib.cell_of_heap h.bag];rfl
 have F:w.drew.cell? ⟨q i,4,none⟩=some (.int .i64 C.1):=by show w.cell? _=_;rw [Lib.cell_of_heap v];rfl
 have G:w.drew.cell? ⟨q j,4,none⟩=some (.int .i64 D.1):=by show w.cell? _=_;rw [Lib.cell_of_heap z];rfl
 have J:(Instr.lookup 115 (.map (some g)) (.int .i64 ((i:Int)+1)) false).run Tryz.prog w.drew= .ok (.pointer (some ⟨q i,0,none⟩)) w.drew:=
  ig (t:=115) (e:=122) fU Tryz.underlying115 (w:=w.drew) h.map c i (by omega) f false
 have K:(Instr.lookup 115 (.map (some g)) (.int .i64 ((j:Int)+1)) false).run Tryz.prog w.drew= .ok (.pointer (some ⟨q j,0,none⟩)) w.drew:=
  ig (t:=115) (e:=122) fU Tryz.underlying115 (w:=w.drew) h.map c j (by omega) o false
 have l:=Lib.hid (fun (x y:Int) (W:World)=>Am x y W)
 have m:Hid (∀(a b:Int),Calls Tryz.prog 121 #[.slice (some ⟨w.heap.size,0,none⟩) 2 2] (w.drew.alloc (.cells #[.int .i64 a,.int .i64 b] 3)) fun e u=>(∃r:Int,e= .returned (.int .i64 r))∧w.drew.alloc (.cells #[.int .i64 a,.int .i64 b] 3)=u):=Lib.hid (fun a b=>J2 w.heap.size _ (fun k H=>by
  have e:=heap_alloc_new w.drew (.cells #[.int .i64 a,.int .i64 b] 3);have e:(w.drew.alloc (.cells #[.int .i64 a,.int .i64 b] 3)).heap[w.heap.size]? =some (.cells #[.int .i64 a,.int .i64 b] 3 (0,0)):=e;rw [Lib.cell_of_heap e];obtain rfl | rfl:k=0∨k=1:=by omega
  ·exact ⟨a,rfl⟩
  ·exact ⟨b,rfl⟩))
 clear h v z c n p;go_enter Tryz.func81,Tryz.ntmps81;go_wp2_with fail
 go_region_law (first
  | (go_simp;go_at_call 122;refine (l.out _ _ _).mono ?_;rintro e B ⟨⟨r,rfl⟩,rfl⟩;dsimp only)
  | (go_simp;go_at_call 121;refine (m.out _ _).mono ?_;rintro e B ⟨⟨r,rfl⟩,rfl⟩;dsimp only))
 all_goals
  go_wp2_with fail
  go_ret;exact ⟨⟨_,rfl⟩,((Below.refl _ w).drew).alloc (Nat.le_refl _) _⟩
theorem Bi (o I Q:Nat) (q:Nat→Nat) (R v:Value) (S:bp) (l:List Nat) (w:World) (h:bh o w I Q q R S) (hn:S.items.length≤1048576) (N:∀i∈l,i∈S.live) (h1:1≤l.length) (hz:l.length≤1048576) (A:bg w v l.length 1 ((iK l).map fun (i:Int)=> .int .i64 i)):
  Calls Tryz.prog 80 #[v,.func (.func 81) #[.pointer (some ⟨I,0,none⟩)] #[]] w fun e J=>∃i∈l,e= .returned (.int .i64 ((i:Int)+1))∧Below w.heap.size w J:=by
 have U:=Lib.hid A;have T:=Lib.hid h;have K:=Lib.hid N;obtain ⟨a,D,rfl,x⟩:=A.one;obtain ⟨V,y,rfl,_,f⟩:=x 0 (by omega);have c:∀(k:Nat) (F:k < l.length),((iK l).map fun (i:Int)=>Value.int .i64 i)[k]? =some (.int .i64 ((l[k]:Int)+1)):=fun k F=>by simp [iK,F]
 rw [c 0 (by omega)] at f;have C:=Lib.hid c;have n:l[0]∈l:=List.getElem_mem _
 generalize l[0]=i0 at f n
 have O:¬(l.length:Int) < 1:=by omega
 have M:l.length≤D:=A.cap;clear A h x N c;rw [Nat.add_zero] at f;go_enter Tryz.func80,Tryz.ntmps80;go_wp2_with fail
 go_loopw [5,6] (fun m i J=>∃(k j:Nat),1≤k∧k≤l.length∧i= .int .i64 k∧j∈l∧m= .int .i64 ((j:Int)+1)∧Hid (Below w.heap.size w J)) (fun _ i _=>l.length - (intOf i).toNat)
 case atStart=>exact ⟨1,i0,by omega,by omega,rfl,n,rfl,Lib.hid (Below.refl _ _)⟩
 case round=>
  obtain ⟨k,j,Y,F,rfl,E,rfl,t⟩:=hrel
  by_cases s:k < l.length
  ·have P:(k:Int) < (l.length:Int):=by omega
   obtain ⟨a',L,W,x⟩:=(U.out.below t.out).one;injection W with ea1 _ ea3;obtain ⟨b,Z,z,_,d⟩:=x k s;rw [←ea1] at z;injection z with z;injection z with e3 e4;subst e3 e4;rw [C.out k s] at d;have g:l[k]∈l:=List.getElem_mem s
   generalize l[k]=i at d g
   have H:w.heap.size≤wr.heap.size:=t.out.size;have B:=Lib.hid (tY o I Q q R S i j wr (T.out.keep t.out) (by omega) (K.out i g) (K.out j E));clear x ea1 ea3;go_wp2_with (first | (go_at_call 81;refine B.out.mono ?_;rintro e w2 ⟨⟨r,rfl⟩,p⟩;have X:w2.cell? ⟨V,y+k,none⟩=some (.int .i64 ((i:Int)+1)):=((p.cell (eI d)).trans d);have u:=Lib.hid (t.out.trans (p.mono H));clear p) | fail)
   all_goals
    first
    | exact ⟨⟨k+1,i,by omega,by omega,by go_num,g,rfl,u⟩,by simp [intOf];omega⟩
    | exact ⟨⟨k+1,j,by omega,by omega,by go_num,E,rfl,u⟩,by simp [intOf];omega⟩
  ·have G:k=l.length:=by omega
   subst G;go_wp2_with fail
   go_ret;exact ⟨j,E,rfl,t.out⟩
end Go.Proofs.YtofpegbpgkkgkaaGreatDoor
