import Derived.Test.YtofpegbpgkkgkaaGreatDoorS17
import Derived.Test.YtofpegbpgkkgkaaGreatDoorS09
import Derived.Test.YtofpegbpgkkgkaaGreatDoorS13
import Derived.Orders
namespace Go.Proofs.YtofpegbpgkkgkaaGreatDoor
set_option maxHeartbeats 8000000
set_option maxRecDepth 1000000
open Go.RowKit
theorem ll.grow {w b:World} {sb:Nat} {C:Array Value} {v a:Value} {l i:List UInt8} (h:ll w sb C v l) (m:aH (fun k=>v.ownBlock=some k) w b) (f:lF b a i):ll (b.setCell ⟨sb,2,none⟩ a) sb (C.setIfInBounds 2 a) a i:=by
 have d:=m.some_ h.blk h.far;refine ⟨heap_setCell_same b sb 2 _ _ a d,by rw [Array.size_setIfInBounds];exact h.size,by rw [Array.getElem?_setIfInBounds_self_of_lt (by have:=h.size;omega)],bC f (aH.same ((aL.refl sb b).setCell _)) (fun g n e=>?_)⟩
 obtain ⟨j,c⟩:=dm f n;rw [e,d] at c;simp at c
theorem oI.fin {sb n:Nat} {C r:Array Value} {v i j:Value} {x:List UInt8} {w m h l y:World} {D:Array Value} (d:aH (fun k=>k=sb∨v.ownBlock=some k) w m) (c:Below m.heap.size m h) (s:∀k,i.ownBlock=some k→v.ownBlock=some k∨w.heap.size≤k) (b:r=C.setIfInBounds 2 i) (a:ll l sb (r.setIfInBounds 2 j) j x) (p:aH (fun k=>k=sb∨i.ownBlock=some k) h l) (q:∀k,j.ownBlock=some k→i.ownBlock=some k∨h.heap.size≤k) (A:w.heap.size≤n) (t:l.heap[n]? =some (.cells D 138 (0,0))) (o:aL n l y):oI sb C v x w y:=by
 have E:w.heap.size≤h.heap.size:=Nat.le_trans d.size c.size;refine ⟨j,⟨?_,?_,?_,?_⟩,?_,fun k f=>(q k f).elim (s k) (fun e=> .inr (by omega))⟩
 ·have:=(o.2 sb (fun e=>by have:=a.blk;rw [e,t] at this;simp at this)).trans a.blk;rw [b,Array.setIfInBounds_setIfInBounds] at this;exact this
 ·have:=a.size;rw [b] at this;simpa using this
 ·have:=a.at2;rw [b,Array.setIfInBounds_setIfInBounds] at this;exact this
 ·exact bC a.row (aH.same o) (fun g B e=>by
   obtain ⟨z,u⟩:=dm a.row B;rw [e,t] at u
   simp at u)
 ·exact ((d.trans (aH.below c:aH (fun _=>False) _ _) (fun _ _ e=>e.elim)).trans p (fun k f e=>e.elim .inl (fun e=>(s k e).elim .inr (fun e=>absurd f (by omega))))).trans (aH.same o) (fun k f e=>absurd f (by omega))
theorem B7 {A:Nat→Prop} {w b:World} {g h:Nat} (a:Lib.Utf8Tabs g h w) (c:aH A w b) (n:¬A g) (p:¬A h):Lib.Utf8Tabs g h b:=by
 have j:g < w.heap.size:=aC (a.1 0 (by decide));have l:h < w.heap.size:=aC (a.2 0 (by decide)).1;have m:∀o,b.cell? ⟨g,o,none⟩=w.cell? ⟨g,o,none⟩:=fun o=>World.cell?_of_block (c.block _ j n);have e:∀o,b.cell? ⟨h,o,none⟩=w.cell? ⟨h,o,none⟩:=fun o=>World.cell?_of_block (c.block _ l p);exact ⟨fun k f=>(m k).trans (a.1 k f),fun i d=>⟨(e _).trans (a.2 i d).1,(e _).trans (a.2 i d).2⟩⟩
theorem IC (sb:Nat) (C:Array Value) (v:Value) (l:List UInt8) (b:UInt8) (w:World) (h:ll w sb C v l) (hl:l.length≤102) (hu:Lib.Utf8Tabs 2 3 w) (d7:¬(2=sb∨v.ownBlock=some 2)) (u:¬(3=sb∨v.ownBlock=some 3)):
  Calls Tryz.prog 66 #[.pointer (some ⟨sb,2,none⟩),.int .u8 (b.toNat:Int)] w fun e w'=>e= .returned (th (j4 l b).2)∧oI sb C v (j4 l b).1 w w':=by
 obtain ⟨q,I⟩:∃q:World,w.alloc (.cells #[.string ⟨#[]⟩,.bool false] 138)=q:=⟨_,rfl⟩;have B0:Below w.heap.size w q:=by rw [←I];exact (Below.refl _ _).alloc (Nat.le_refl _) _
 have X0:q.heap[w.heap.size]? =some (.cells #[.string ⟨#[]⟩,.bool false] 138 (0,0)):=by rw [←I];exact heap_alloc_new w _
 have d8:q.heap.size=w.heap.size+1:=by rw [←I];simp
 have p:=h.below B0;have e0:=Utf8Tabs_below hu B0;have c6:q.cell? ⟨sb,2,none⟩=some v:=by rw [Lib.cell_of_heap p.blk];exact p.at2
 have c2:∀o:Obj,(q.alloc o).cell? ⟨sb,2,none⟩=some v:=fun o=>by rw [Lib.cell_of_heap (ae ((Below.refl _ q).alloc (Nat.le_refl _) o) p.blk)];exact p.at2
 obtain ⟨i,hi,e1,e2,e4⟩:=info_parts lx;obtain ⟨g,a,X,T,b1,V,O1⟩:=pv (P:=Tryz.prog) Tryz.underlying114 hi e1 e2 e4 rfl q (q.alloc (.cells #[.int .u8 (b.toNat:Int)] 5)) v (.int .u8 (b.toNat:Int)) l.length (Lib.byteCells l) p.row rfl ((Below.refl _ _).alloc (Nat.le_refl _) _) (heap_alloc_new q _) (by unfold maxLen;omega) (by omega)
 have R1:lF X (.slice (some ⟨g,0,none⟩) (l.length+1) a) (l++[b]):=by
  have e:Lib.byteCells (l++[b])=Lib.byteCells l++[.int .u8 (b.toNat:Int)]:=by simp [Lib.byteCells]
  unfold lF;rw [e,List.length_append];exact b1
 have c7:X.cell? ⟨sb,2,none⟩=some v:=by rw [Lib.cell_of_heap (V.some_ p.blk p.far)];exact p.at2
 have d0:=Lib.frozen_of_heap (V.some_ p.blk p.far) 2;have N:=p.grow V R1;have S2:aL sb X (X.setCell ⟨sb,2,none⟩ (.slice (some ⟨g,0,none⟩) (l.length+1) a)):=(aL.refl _ _).setCell _;obtain ⟨m,a8⟩:∃m:World,X.setCell ⟨sb,2,none⟩ (.slice (some ⟨g,0,none⟩) (l.length+1) a)=m:=⟨_,rfl⟩;rw [a8] at N S2
 have X2:m.heap[w.heap.size]? =some (.cells #[.string ⟨#[]⟩,.bool false] 138 (0,0)):=(S2.2 _ (by have:=ah h.blk;omega)).trans (V.some_ X0 (fun e=>by
  obtain ⟨Q,hq⟩:=dm p.row e;rw [X0] at hq
  simp at hq))
 have K2:aH (fun k=>k=sb∨v.ownBlock=some k) w m:=(((aH.below B0:aH (fun k=>k=sb∨v.ownBlock=some k) w q)).trans V (fun _ _ e=> .inr e)).trans (aH.same S2) (fun _ _ e=> .inl e);have b3:Lib.Utf8Tabs 2 3 m:=B7 hu K2 d7 u;have S:=Lib.run_convert_bytes_const (P:=Tryz.prog) m 114 5 #[.int .u8 13,.int .u8 10] 2 2 Tryz.underlying114 Tryz.underlying5;rw [show (#[Value.int .u8 13,Value.int .u8 10]:Array Value).size=2 from rfl] at S;have U:Below m.heap.size m (m.alloc (.cells #[.int .u8 13,.int .u8 10] 5 (2,3))):=(Below.refl _ _).alloc (Nat.le_refl _) _;have E3:=heap_alloc_new m (.cells #[.int .u8 13,.int .u8 10] 5 (2,3));obtain ⟨W3,a9⟩:∃W3:World,m.alloc (.cells #[.int .u8 13,.int .u8 10] 5 (2,3))=W3:=⟨_,rfl⟩;rw [a9] at S U E3;have A3:=N.below U;have X3:=ae U X2;have b4:=Utf8Tabs_below b3 U
 have s:(l++[b]).length≤a:=by
  obtain ⟨g',a7,Q,e,_,p1,_⟩:=R1.parts (by simp);injection e with _ _ e;omega
 have c8:m.cell? ⟨sb,2,none⟩=some (.slice (some ⟨g,0,none⟩) (l.length+1) a):=by rw [Lib.cell_of_heap N.blk];exact N.at2
 have a6:∀o:Obj,(m.alloc o).cell? ⟨sb,2,none⟩=some (.slice (some ⟨g,0,none⟩) (l.length+1) a):=fun o=>by rw [Lib.cell_of_heap (N.below ((Below.refl _ m).alloc (Nat.le_refl _) o)).blk];exact N.at2
 have G:=lF.by A3.row
 have H:=wD (l++[b]) g a m.heap.size W3 G s (by simp;omega) E3;have f:Hid (j4 l b=if pK (l++[b]) then ([],some (jw ((l++[b]).take ((l++[b]).length - 2)))) else (lk (l++[b]),none)):=Lib.hid rfl;obtain ⟨c,r⟩:∃c,l++[b]=c:=⟨_,rfl⟩;have J:c.length=l.length+1:=by rw [←r];simp
 rw [r] at A3 s G H f;rw [J] at H s;rw [d8] at T;have c4:=Lib.hid T;have a2:=Lib.hid K2;have B:=Lib.hid A3;have a0:=Lib.hid U;have E:=Lib.hid X3;have c5:=Lib.hid b4;have b8:=Lib.hid G;have a1:=Lib.hid H
 have HO:Hid (∀k,(Value.slice (some ⟨g,0,none⟩) (l.length+1) a).ownBlock=some k→v.ownBlock=some k∨w.heap.size≤k):=Lib.hid (fun k e=>by
  injection e with e;have e:g=k:=e;subst e
  exact O1.imp id (fun e=>by omega))
 have HC:=Lib.hid h.size;obtain ⟨av,cv,ev⟩:=aE (aF h.row);subst ev;clear h hu p e0 X0 B0 T b1 V O1 R1 N S2 X2 K2 b3 U E3 A3 X3 b4 G H r;go_enter Tryz.func66,Tryz.ntmps66
 go_wp2_with (first
  | (at_builtin;refine bB rfl _ _ 114 rfl _ _ (.slice (some ⟨g,0,none⟩) (l.length+1) a) X rfl rfl c4.out ?_)
  | fail)
 refine a1.out.mono ?_;rintro e w4 ⟨rfl,rfl⟩;obtain ⟨t,et⟩:∃t,pK c=t:=⟨_,rfl⟩;rw [et] at f ⊢;clear a1 et S c6 c2 c7 d0 c8 a6 I a8 a9
 cases t with
 | false=>
  simp only [Bool.false_eq_true,if_false] at f ⊢;have a3:=Lib.hid (BJ sb _ _ c w4 B.out (by omega) (by omega));go_wp2_with fail
  refine a3.out.mono ?_;rintro e d ⟨rfl,v5,n,K5,O5⟩
  have z:=K5.some_ E.out (fun e=>by
   rcases e with e | e
   ·have:=B.out.blk;rw [←e,E.out] at this;simp at this
   ·obtain ⟨Q,hq⟩:=dm B.out.row e;rw [E.out] at hq
    simp at hq)
  have p0:d.cell? ⟨w.heap.size,0,none⟩=some (.string ⟨#[]⟩):=by rw [Lib.cell_of_heap z];rfl
  have p1:d.cell? ⟨w.heap.size,1,none⟩=some (.bool false):=by rw [Lib.cell_of_heap z];rfl
  have q0:=Lib.frozen_of_heap z 0;have q1:=Lib.frozen_of_heap z 1;have a4:=Lib.hid z;have b5:=Lib.hid n;have c0:=Lib.hid K5;have c3:=Lib.hid O5;clear z n K5 O5 a3;go_wp2_with fail
  obtain ⟨r0,r1,rS⟩:=qC (x:= .string ⟨#[]⟩) (y:= .bool false) a4.out;refine bodyPost_ret (v:= .tuple #[.agg #[.string ⟨#[]⟩,.bool false],.bool false]) (by simp [results,Tryz.results66,go_sem,r0,r1]) rfl ?_;rw [f.out];exact ⟨rfl,oI.fin a2.out a0.out HO.out rfl b5.out c0.out c3.out (Nat.le_refl _) a4.out rS⟩
 | true=>
  simp only [if_true] at f ⊢;obtain ⟨L,u⟩:∃L,l.length+1 - 2=L:=⟨_,rfl⟩;rw [u];have M:Hid (j4 l b=([],some (jw (c.take L)))):=Lib.hid (by rw [f.out,J,u]);have b2:(c.take L).length=L:=by rw [List.length_take];omega
  have b0:qF w4 g (c.take L):=fun j hj=>by
   have d5:j < L:=by omega
   rw [b8.out j (by omega),List.getD_eq_getElem?_getD,List.getD_eq_getElem?_getD,List.getElem?_take_of_lt d5]
  have R:=AY (c.take L) g a w4 b0 (by omega) (by omega) c5.out;rw [b2] at R;have D:=Lib.hid R;obtain ⟨x,ex⟩:∃x,jw (c.take L)=x:=⟨_,rfl⟩;rw [ex] at D M;obtain ⟨tx,Z⟩:=x;simp only at D;clear R b0 ex b2 u f;go_wp2_with fail
  refine D.out.mono ?_;rintro e d ⟨rfl,K⟩;have n:=B.out.below K;have z:=ae K E.out;have d2:∀o:Obj,(d.alloc o).cell? ⟨sb,2,none⟩=some (.slice (some ⟨g,0,none⟩) (l.length+1) a):=fun o=>by rw [Lib.cell_of_heap (n.below ((Below.refl _ d).alloc (Nat.le_refl _) o)).blk];exact n.at2
  have c9:d.cell? ⟨sb,2,none⟩=some (.slice (some ⟨g,0,none⟩) (l.length+1) a):=by rw [Lib.cell_of_heap n.blk];exact n.at2
  have g2:=Lib.frozen_of_heap n.blk 2;have d1:∀o:Obj,(d.alloc o).frozen? ⟨sb,2,none⟩=false:=fun o=>Lib.frozen_of_heap (n.below ((Below.refl _ d).alloc (Nat.le_refl _) o)).blk 2;have B6:Below d.heap.size d (d.alloc (.cells #[.string (bs tx),.bool Z] 138)):=(Below.refl _ _).alloc (Nat.le_refl _) _;obtain ⟨O,d3⟩:∃O:World,d.alloc (.cells #[.string (bs tx),.bool Z] 138)=O:=⟨_,rfl⟩;have L6:=heap_alloc_new d (.cells #[.string (bs tx),.bool Z] 138);rw [d3] at B6 L6;have A:=n.below B6;have X6:=ae B6 z;have d6:O.cell? ⟨sb,2,none⟩=some (.slice (some ⟨g,0,none⟩) (l.length+1) a):=by rw [Lib.cell_of_heap A.blk];exact A.at2
  have g6:=Lib.frozen_of_heap A.blk 2;have W:aL sb O (O.setCell ⟨sb,2,none⟩ (.slice (some ⟨g,0,none⟩) 0 a)):=(aL.refl _ _).setCell _;have b7:=heap_setCell_same O sb 2 _ _ (.slice (some ⟨g,0,none⟩) 0 a) A.blk;obtain ⟨F,d4⟩:∃F:World,O.setCell ⟨sb,2,none⟩ (.slice (some ⟨g,0,none⟩) 0 a)=F:=⟨_,rfl⟩;rw [d4] at W b7;have d9:sb≠w.heap.size:=fun e=>by have:=n.blk;rw [e,z] at this;simp at this
  have Y:=(W.2 _ (Ne.symm d9)).trans X6;have L7:=(W.2 _ (by have:=ah n.blk;omega)).trans L6;have t0:F.cell? ⟨d.heap.size,0,none⟩=some (.string (bs tx)):=by rw [Lib.cell_of_heap L7];rfl
  have t1:F.cell? ⟨d.heap.size,1,none⟩=some (.bool Z):=by rw [Lib.cell_of_heap L7];rfl
  have R7:lF F (.slice (some ⟨g,0,none⟩) 0 a) []:=by
   obtain ⟨g',a7,Q,e,hg,p1,p2,p3,p4⟩:=A.row.parts (fun e=>by rw [e] at J;simp at J);injection e with e _ e3;injection e with e;injection e with e _;subst e e3;exact lF.mk (l:=[]) ((W.2 g (fun e=>A.far (by rw [←e];rfl))).trans hg) (Nat.zero_le _) p2 p3 rfl
  have p0:F.cell? ⟨w.heap.size,0,none⟩=some (.string ⟨#[]⟩):=by rw [Lib.cell_of_heap Y];rfl
  have p1:F.cell? ⟨w.heap.size,1,none⟩=some (.bool false):=by rw [Lib.cell_of_heap Y];rfl
  have q0:=Lib.frozen_of_heap Y 0;have q1:=Lib.frozen_of_heap Y 1;have A7:ll F sb ((C.setIfInBounds 2 (.slice (some ⟨g,0,none⟩) (l.length+1) a)).setIfInBounds 2 (.slice (some ⟨g,0,none⟩) 0 a)) (.slice (some ⟨g,0,none⟩) 0 a) []:=⟨b7,by rw [Array.size_setIfInBounds];exact A.size,by rw [Array.getElem?_setIfInBounds_self_of_lt (by have:=A.size;omega)],R7⟩
  have K7:aH (fun k=>k=sb∨(Value.slice (some ⟨g,0,none⟩) (l.length+1) a).ownBlock=some k) w4 F:=((aH.below K:aH (fun k=>k=sb∨(Value.slice (some ⟨g,0,none⟩) (l.length+1) a).ownBlock=some k) w4 d).trans (aH.below B6:aH (fun _=>False) _ _) (fun _ _ e=>e.elim)).trans (aH.same W) (fun _ _ e=> .inl e);have b6:=Lib.hid A7;have a5:=Lib.hid Y;have c1:=Lib.hid K7;clear n z K D W b7 X6 R7 B6 Y A A7 K7 d2 d1 c9 g2 L6 L7;go_wp2_with fail
  obtain ⟨r0,r1,rS⟩:=qC (x:= .string (bs tx)) (y:= .bool Z) a5.out;refine bodyPost_ret (v:= .tuple #[.agg #[.string (bs tx),.bool Z],.bool true]) (by simp [results,Tryz.results66,go_sem,r0,r1]) rfl ?_;rw [M.out];exact ⟨rfl,oI.fin a2.out a0.out HO.out rfl b6.out c1.out (fun k e=> .inl e) (Nat.le_refl _) a5.out rS⟩
theorem Cp {w:World} {g:Nat} (n:Nat):aH (fun k=>k=g) w (w.freeze ⟨g,0,none⟩ n):=by
 obtain ⟨a,b,c⟩:(∀k,k≠g→(w.freeze ⟨g,0,none⟩ n).heap[k]? =w.heap[k]?)∧(w.freeze ⟨g,0,none⟩ n).heap.size=w.heap.size∧dU w (w.freeze ⟨g,0,none⟩ n):=by
  unfold World.freeze
  split
  ·exact ⟨fun _ _=>rfl,rfl,dU.refl w⟩
  ·refine ⟨fun k d=>?_,by simp,⟨rfl,rfl,rfl⟩⟩
   show (w.heap.modify g _)[k]? =_;rw [Array.getElem?_modify,if_neg (fun e=>d e.symm)]
 exact ⟨by rw [b];exact Nat.le_refl _,fun k _ f=>a k f,c⟩
theorem BQ (b g a:Nat) (d:Array Value) (s:Nat×Nat) (p:Option Addr) (l:List UInt8) (w:World) (h:l≠[]) (t:w.heap[b]? =some (.cells #[.pointer p,.slice (some ⟨g,0,none⟩) l.length a] 133 (0,0))) (u:w.heap[g]? =some (.cells d 5 s)) (q:l.length≤a) (f:a≤maxLen) (m:d.size=a) (c:∀j x,l[j]? =some x→w.cell? ((⟨g,0,none⟩:Addr).add j)=some (.int .u8 x.toNat)):
  Calls Tryz.prog 64 #[.pointer (some ⟨b,0,none⟩)] w fun e y=>e= .returned (.string (bs l))∧w.drew.freeze ⟨g,0,none⟩ l.length=y:=by
 have o:l.length≠0:=by simpa using h
 have z:w.drew.cell? ⟨b,1,none⟩=some (.slice (some ⟨g,0,none⟩) l.length a):=by
  have:w.drew.heap[b]? =some (.cells #[.pointer p,.slice (some ⟨g,0,none⟩) l.length a] 133 (0,0)):=t;rw [Lib.cell_of_heap this];rfl
 have i:(Builtin.unsafeSliceData_ #[114] (Tryz.lays169_ren.t 127) #[.slice (some ⟨g,0,none⟩) l.length a]).run Tryz.prog w.drew= .ok (.pointer (some ⟨g,0,none⟩)) w.drew:=
  Lib.run_unsafeSliceData_row _ _ _ _ _ _ (by omega)
 have k:(Builtin.unsafeString_ #[(Tryz.lays169_ren.t 127),3] 9 #[.pointer (some ⟨g,0,none⟩),.int .i64 l.length]).run Tryz.prog w.drew= .ok (.string ⟨l.toArray⟩) (w.drew.freeze ⟨g,0,none⟩ l.length):=by
  refine Lib.run_unsafeString_row w.drew _ 3 9 5 Tryz.lays169.t127 Tryz.Builder_Extra_169.cellsByte g d.size (by have n:w.drew.heap[g]? =some (.cells d 5 s):=u;simp [World.shape?,n]) l h (by omega) (by unfold maxLen at f;omega) ?_;exact fun j x v=>c j x v
 simp only [Tryz.lays169_ren] at i k;clear t u q f m c h o;have r:=Tryz.lays169.mixed;go_enter Tryz.func64,Tryz.ntmps64;go_wp2_with fail
 go_region_o
 all_goals (go_wp2;go_ret;exact ⟨rfl,rfl⟩)
theorem DP (b:Nat) (p:Option Addr) (w:World) (f:w.heap[b]? =some (.cells #[.pointer p,.slice none 0 0] 133 (0,0))):
  Calls Tryz.prog 64 #[.pointer (some ⟨b,0,none⟩)] w fun e g=>e= .returned (.string (bs []))∧w.drew=g:=by
 have c:=Any.unsafeString_none Tryz.lays169 Tryz.Builder_Extra_169
 have h:w.drew.cell? ⟨b,1,none⟩=some (.slice none 0 0):=by
  have:w.drew.heap[b]? =some (.cells #[.pointer p,.slice none 0 0] 133 (0,0)):=f;rw [Lib.cell_of_heap this];rfl
 have a:(Builtin.unsafeSliceData_ #[114] (Tryz.lays169_ren.t 127) #[.slice none 0 0]).run Tryz.prog w.drew= .ok (.pointer none) w.drew:=rfl;simp only [Tryz.lays169_ren] at a c;clear f;have d:=Tryz.lays169.mixed;go_enter Tryz.func64,Tryz.ntmps64;go_wp2_with fail
 go_region_o
 all_goals (go_wp2;go_ret;exact ⟨rfl,rfl⟩)
theorem BP (b g a:Nat) (p:Option Addr) (w:World) (c:a≠0) (i:w.heap[b]? =some (.cells #[.pointer p,.slice (some ⟨g,0,none⟩) 0 a] 133 (0,0))):
  Calls Tryz.prog 64 #[.pointer (some ⟨b,0,none⟩)] w fun e j=>e= .returned (.string (bs []))∧w.drew=j:=by
 have f:=Any.unsafeString_none Tryz.lays169 Tryz.Builder_Extra_169
 have k:w.drew.cell? ⟨b,1,none⟩=some (.slice (some ⟨g,0,none⟩) 0 a):=by
  have:w.drew.heap[b]? =some (.cells #[.pointer p,.slice (some ⟨g,0,none⟩) 0 a] 133 (0,0)):=i;rw [Lib.cell_of_heap this];rfl
 have d:(Builtin.unsafeSliceData_ #[114] (Tryz.lays169_ren.t 127) #[.slice (some ⟨g,0,none⟩) 0 a]).run Tryz.prog w.drew= .ok (.pointer (some ⟨g,0,none⟩)) w.drew:=
  Lib.run_unsafeSliceData_row _ _ _ _ _ _ c
 simp only [Tryz.lays169_ren] at d f;clear i c;have h:=Tryz.lays169.mixed;go_enter Tryz.func64,Tryz.ntmps64;go_wp2_with fail
 go_region_o
 all_goals (go_wp2;go_ret;exact ⟨rfl,rfl⟩)
theorem xg (b g:Nat) (p:Option Addr) (a:Array Value) (k:Nat×Nat) (w:World) (c:w.heap[b]? =some (.cells #[.pointer p,.slice (some ⟨g,0,none⟩) 0 0] 133 (0,0))) (l:w.heap[g]? =some (.cells a 5 k)):
  Calls Tryz.prog 64 #[.pointer (some ⟨b,0,none⟩)] w fun e q=>e= .returned (.string (bs []))∧Below w.heap.size w q:=by
 have f:=Any.unsafeString_none Tryz.lays169 Tryz.Builder_Extra_169;have i:=ah c
 have n:w.drew.cell? ⟨b,1,none⟩=some (.slice (some ⟨g,0,none⟩) 0 0):=by
  have:w.drew.heap[b]? =some (.cells #[.pointer p,.slice (some ⟨g,0,none⟩) 0 0] 133 (0,0)):=c;rw [Lib.cell_of_heap this];rfl
 have d:(Builtin.unsafeSliceData_ #[114] (Tryz.lays169_ren.t 127) #[.slice (some ⟨g,0,none⟩) 0 0]).run Tryz.prog w.drew= .ok (.pointer (some ⟨w.drew.heap.size,0,none⟩)) (w.drew.alloc (.view ⟨g,0,none⟩ 5)):=
  Lib.run_unsafeSliceData_zero w.drew _ _ 5 Tryz.lays169.t127 ⟨g,0,none⟩ 0 (5,a.size) (by have h:w.drew.heap[g]? =some (.cells a 5 k):=l;simp [World.shape?,h])
 have o:(w.drew.alloc (.view ⟨g,0,none⟩ 5)).cell? ⟨b,1,none⟩=some (.slice (some ⟨g,0,none⟩) 0 0):=by
  have:(w.drew.alloc (.view ⟨g,0,none⟩ 5)).heap[b]? =_:=(Lib.alloc_old w.drew _ b i).trans c;rw [Lib.cell_of_heap this];rfl
 have s:(w.alloc (.view ⟨g,0,none⟩ 5)).drew.cell? ⟨b,1,none⟩=some (.slice (some ⟨g,0,none⟩) 0 0):=o;have r:w.cell? ⟨b,1,none⟩=some (.slice (some ⟨g,0,none⟩) 0 0):=n;have m:Hid (Below w.heap.size w (w.drew.alloc (.view ⟨g,0,none⟩ 5))):=Lib.hid ((Below.drew (Below.refl _ w)).alloc (Nat.le_refl _) _);simp only [Tryz.lays169_ren] at d f;clear c l;have j:=Tryz.lays169.mixed;go_enter Tryz.func64,Tryz.ntmps64;go_wp2_with fail
 go_region_o
 all_goals (go_wp2;go_ret;exact ⟨rfl,m.out⟩)
theorem mi (d b:Nat) (v:Value) (a:List UInt8) (w:World) (h:jE d w b v a):
  Calls Tryz.prog 64 #[.pointer (some ⟨b,0,none⟩)] w fun e i=>e= .returned (.string (bs a))∧aH (fun k=>v.ownBlock=some k) w i:=by
 obtain ⟨p,_,l⟩:=h.blk
 rcases h.row.2 with ⟨e,D⟩ | ⟨g,c,f,r,e,A,u,B,o,m,n,q⟩
 ·obtain rfl:a=[]:=List.length_eq_zero_iff.1 D;subst e;refine (DP b p w l).mono ?_;rintro e i ⟨rfl,rfl⟩;exact ⟨rfl,aH.below (Below.drew (Below.refl _ w))⟩
 ·subst e
  by_cases s:a=[]
  ·subst s
   by_cases t:c=0
   ·subst t;refine (xg b g p f r w l u).mono ?_;rintro e i ⟨rfl,z⟩;exact ⟨rfl,aH.below z⟩
   ·refine (BP b g c p w t l).mono ?_;rintro e i ⟨rfl,rfl⟩;exact ⟨rfl,aH.below (Below.drew (Below.refl _ w))⟩
  ·refine (BQ b g c f r p a w s l u o m (by simpa using n) ?_).mono ?_
   ·intro j x C;have:=h.row.cells (g:=g) rfl j (.int .u8 x.toNat) (by simp [Lib.byteCells,C]);exact this
   ·rintro e i ⟨rfl,rfl⟩;refine ⟨rfl,?_⟩;have y:aH (fun k=>k=g) w w.drew:=aH.below (Below.drew (Below.refl _ w));exact (y.trans (Cp a.length) (fun _ _ e=>e)).mono (fun k _ e=>by rw [e];rfl)
structure zS [Kn] (E:Nat→Prop) (pp pb mb sb ch:Nat) (c:bX) (w:World) (A:Nat→Prop) (q:Nat→Nat) (vr:Value) (S:aa) (recs:List UInt8) (vw:Value) (s:bG):Prop where
 env:gg E w pp c
 ses:cI w A pp pb sb ch vw [] s
 row:lF w vw s.wait
 bag:fv w pb mb q vr S recs
 ea:∀k,E k→¬A k
 eb:∀k,E k→¬an w pb mb q vr S k
 ab:∀k,A k→¬an w pb mb q vr S k
 wd:∀g,vw.ownBlock=some g→¬E g∧¬A g∧¬an w pb mb q vr S g
def wY (w:World) (pb mb:Nat) (A:Nat→Prop) (q:Nat→Nat) (vr:Value) (S:aa) (vw:Value) (k:Nat):Prop:=A k∨an w pb mb q vr S k∨vw.ownBlock=some k
def tq [Kn] (E A:Nat→Prop) (pp pb mb sb ch:Nat) (c:bX) (q:Nat→Nat) (vr:Value) (S:aa) (vw:Value) (w:World) (s':bG) (S':aa) (recs':List UInt8) (w':World):Prop:=
 ∃A' q' vr' vw',zS E pp pb mb sb ch c w' A' q' vr' S' recs' vw' s'∧(∀k,wY w' pb mb A' q' vr' S' vw' k→wY w pb mb A q vr S vw k∨w.heap.size≤k)∧aH (wY w pb mb A q vr S vw) w w'
def jl [Kn] (E:Nat→Prop) (pp pb mb sb ch:Nat) (c:bX) (R:Nat→Prop) (w:World) (x:bG×aa×List UInt8×List UInt8) (wr:World):Prop:=
 ∃A q vr vw v,fG E pp pb mb sb ch w.heap.size c wr A q vr x.2.1 x.2.2.1 vw v x.2.2.2 [] x.1∧(∀k,ug wr pb mb w.heap.size A q vr x.2.1 vw v k→R k∨w.heap.size≤k)∧aH R w wr∧gM c x.1 x.2.1 x.2.2.1
section
variable {E R:Nat→Prop} {pp pb mb sb ch:Nat} {c:bX} {w wr w':World} {A:Nat→Prop} {q:Nat→Nat} {vr:Value} {S:aa} {recs:List UInt8} {vw:Value} {s:bG} {x:bG×aa×List UInt8×List UInt8}
theorem xD {a:Nat} {v:Value} (b:∀k,an w' pb mb q vr S k→an wr pb mb q vr S k) {k:Nat} (h:ug w' pb mb a A q vr S vw v k):ug wr pb mb a A q vr S vw v k:=by
 rcases h with h | h | h
 ·exact .inl h
 ·exact .inr (.inl (b k h))
 ·exact .inr (.inr h)
theorem jl.below [Kn] (h:jl E pp pb mb sb ch c R w x wr) (b:Below wr.heap.size wr w'):jl E pp pb mb sb ch c R w x w':=by
 obtain ⟨A,q,vr,vw,v,d,f,g,i⟩:=h;have a:∀k,an w' pb mb q vr x.2.1 k→an wr pb mb q vr x.2.1 k:=fun k e=>e.imp (fun e=>cR d.bag.inn b e) id;exact ⟨A,q,vr,vw,v,d.below b,fun k j=>f k (xD a j),g.trans (aH.below b) (fun _ _ e=>e),i⟩
theorem jl.over [Kn] (h:jl E pp pb mb sb ch c R w x wr):wr.cell? ⟨sb,7,none⟩=some (.bool x.1.over):=by
 obtain ⟨A,q,vr,vw,v,b,e,f,g⟩:=h;obtain ⟨i,a,d⟩:=b.ses.ex;exact a.cell 7
theorem jl.start [Kn] (h:zS E pp pb mb sb ch c w A q vr S recs vw s) (p:gM c s S recs):jl E pp pb mb sb ch c (wY w pb mb A q vr S vw) w (s,S,recs,[]) (w.alloc (.cells #[.pointer none,.slice none 0 0] 133)):=by
 have b:Below w.heap.size w (w.alloc (.cells #[.pointer none,.slice none 0 0] 133)):=(Below.refl _ _).alloc (Nat.le_refl _) _;have i:=heap_alloc_new w (.cells #[.pointer none,.slice none 0 0] 133);obtain ⟨W,n⟩:∃W,w.alloc (.cells #[.pointer none,.slice none 0 0] 133)=W:=⟨_,rfl⟩;rw [n] at b i ⊢;have a:∀k,an W pb mb q vr S k→an w pb mb q vr S k:=fun k e=>e.imp (fun e=>cR h.bag.inn b e) id;obtain ⟨j,_⟩:=h.bag.chg (aH.below b:aH (fun _=>False) w W) (fun _ _ e=>e);have f:∀k,an w pb mb q vr S k→k < w.heap.size:=fun k e=>an.lt h.bag e;refine ⟨A,q,vr,vw,.slice none 0 0,⟨h.env.below b,h.ses.below b,bC h.row (aH.below b:aH (fun _=>False) w W) (fun _ _ e=>e),j,⟨⟨none,.inl rfl,i⟩,⟨rfl,.inl ⟨rfl,rfl⟩⟩,(by intro e;cases e)⟩,h.ea,fun k e y=>h.eb k e (a k y),fun k e y=>h.ab k e (a k y),?_,?_,(by intro g e;cases e)⟩,?_,aH.below b,p⟩
 ·intro g d;obtain ⟨l,m⟩:=dm h.row d;have:=ah m;exact ⟨(h.wd g d).1,(h.wd g d).2.1,fun y=>(h.wd g d).2.2 (a g y),by omega,(by intro e;cases e)⟩
 ·exact ⟨fun y=>by have:=h.env.lt _ y;omega,fun y=>by have:=h.ses.lt _ y;omega,fun y=>by have:=f _ (a _ y);omega⟩
 ·intro k o
  rcases o with e | e | e | e | e
  ·exact .inl (.inl e)
  ·exact .inl (.inr (.inl (a k e)))
  ·exact .inr (Nat.le_of_eq e.symm)
  ·cases e
  ·exact .inl (.inr (.inr e))
theorem fG.chg [Kn] {B:Nat→Prop} {j:Nat} {v:Value} {d:List UInt8} {l:List (List UInt8)} (h:fG E pp pb mb sb ch j c w A q vr S recs vw v d l s) (i:aH B w w') (n:∀k,E k→¬B k) (f:∀k,ug w pb mb j A q vr S vw v k→¬B k):fG E pp pb mb sb ch j c w' A q vr S recs vw v d l s∧∀k,an w' pb mb q vr S k→an w pb mb q vr S k:=by
 obtain ⟨m,b⟩:=h.bag.chg i (fun k e=>f k (.inr (.inl e)));exact ⟨⟨h.env.chg i n,h.ses.chg i (fun k e=>f k (.inl e)),bC h.row i (fun g e=>f g (.inr (.inr (.inr (.inr e))))),m,j6 h.bld i (f j (.inr (.inr (.inl rfl)))) (fun g e=>f g (.inr (.inr (.inr (.inl e))))),h.ea,fun k e x=>h.eb k e (b k x),fun k e x=>h.ab k e (b k x),fun g a=>⟨(h.wd g a).1,(h.wd g a).2.1,fun x=>(h.wd g a).2.2.1 (b g x),(h.wd g a).2.2.2⟩,⟨h.ld.1,h.ld.2.1,fun x=>h.ld.2.2 (b _ x)⟩,fun g a=>⟨(h.vd g a).1,(h.vd g a).2.1,fun x=>(h.vd g a).2.2 (b g x)⟩⟩,b⟩
theorem jl.take [Kn] {W:World} (h:jl E pp pb mb sb ch c R w x wr) (t:Below wr.heap.size wr W) (b:UInt8):
  Calls Tryz.prog 66 #[.pointer (some ⟨sb,2,none⟩),.int .u8 (b.toNat:Int)] W fun e w'=>e= .returned (th (j4 x.1.wait b).2)∧(∀i,aH (fun k=>wr.heap.size≤k∧k < W.heap.size) w' i→jl E pp pb mb sb ch c R w ({x.1 with wait:=(j4 x.1.wait b).1},x.2) i)∧W.heap.size≤w'.heap.size∧∀(k:Nat) (C:Array Value) (z:Nat×Nat),W.heap[k]? =some (Obj.cells C 138 z)→w'.heap[k]? =some (Obj.cells C 138 z):=by
 obtain ⟨A,q,vr,vw,v,a,M,D,l⟩:=h;have m:=a.below t;have f:∀k,an W pb mb q vr x.2.1 k→an wr pb mb q vr x.2.1 k:=fun k e=>e.imp (fun e=>cR a.bag.inn t e) id;have d:∀k,ug W pb mb w.heap.size A q vr x.2.1 vw v k→R k∨w.heap.size≤k:=fun k g=>M k (xD f g);have j:aH R w W:=D.trans (aH.below t) (fun _ _ e=>e);obtain ⟨P,o,H⟩:=m.ses.ex;refine (IC sb (iq pp pb ch vw P x.1) vw x.1.wait b W ⟨o.blk,o.size,rfl,m.row⟩ l.wait m.env.utf (fun e=>?_) (fun e=>?_)).mono ?_
 ·rcases e with e | e
  ·exact a.ea _ a.env.efir (by rw [e];exact a.ses.asb)
  ·exact (a.wd _ e).1 a.env.efir
 ·rcases e with e | e
  ·exact a.ea _ a.env.eacc (by rw [e];exact a.ses.asb)
  ·exact (a.wd _ e).1 a.env.eacc
 ·rintro e Q ⟨rfl,N⟩;obtain ⟨n,I,p,u,B⟩:=m.cut rfl o H N
  have r:∀k,ug Q pb mb w.heap.size A q vr x.2.1 n v k→¬(wr.heap.size≤k∧k < W.heap.size):=fun k g=>by
   rcases g with e | e | e | e | e
   ·have:=a.ses.lt k e;omega
   ·have:=an.lt a.bag (f k (B k e));omega
   ·have:=a.blLt;omega
   ·have:=a.vLt e;omega
   ·rcases u k e with e | e
    ·have:=a.rowLt e;omega
    ·omega
  refine ⟨rfl,fun i G=>?_,p.size,fun k C z e=>p.some_ e (fun y=>?_)⟩
  ·obtain ⟨K,L⟩:=I.chg G (fun k e=>by have:=a.env.lt k e;omega) r;refine ⟨A,q,vr,n,v,K,fun k g=>?_,(j.trans p (fun k g e=>?_)).trans G (fun k g e=>?_),⟨l.tx,l.time,l.len,l.recs,(vQ _ _).1⟩⟩
   ·rcases g with e | e | e | e | e
    ·exact d k (.inl e)
    ·exact d k (.inr (.inl (B k (L k e))))
    ·exact d k (.inr (.inr (.inl e)))
    ·exact d k (.inr (.inr (.inr (.inl e))))
    ·rcases u k e with e | e
     ·exact d k (.inr (.inr (.inr (.inr e))))
     ·exact .inr (Nat.le_trans j.size e)
   ·have O:ug W pb mb w.heap.size A q vr x.2.1 vw v k:=by
     rcases e with e | e
     ·exact .inl (by rw [e];exact a.ses.asb)
     ·exact .inr (.inr (.inr (.inr e)))
    exact (d k O).elim id (fun e=>by omega)
   ·have:=D.size;omega
  ·rcases y with y | y
   ·rw [y,o.blk] at e;simp at e
   ·obtain ⟨J,F⟩:=dm m.row y;rw [e] at F;simp at F
theorem Ec {d:World} {bx b a:Nat} {x y:Value} (h:b≤bx∧bx < a):aH (fun k=>b≤k∧k < a) d ((d.setCell ⟨bx,0,none⟩ x).setCell ⟨bx,1,none⟩ y):=(aH.same (((aL.refl _ _).setCell _).setCell _)).mono (fun k _ e=>by rw [e];exact h)
theorem jl.line [Kn] (h:jl E pp pb mb sb ch c R w x wr) (l:List UInt8×Bool) (b:l.1.length≤100∧(l.2=false→fp l.1)) (a:x.2.2.2.length≤1099511627776):
  Calls Tryz.prog 67 #[.pointer (some ⟨sb,0,none⟩),.agg #[.string (bs l.1),.bool l.2],.pointer (some ⟨w.heap.size,0,none⟩)] wr fun e w'=>e= .returned (.tuple #[])∧jl E pp pb mb sb ch c R w ((aO c x.1 x.2.1 x.2.2.1 l.1 l.2).1,(aO c x.1 x.2.1 x.2.2.1 l.1 l.2).2.1,(aO c x.1 x.2.1 x.2.2.1 l.1 l.2).2.2.1,x.2.2.2++(aO c x.1 x.2.1 x.2.2.1 l.1 l.2).2.2.2.flatten) w':=by
 obtain ⟨A,q,vr,vw,v,g,i,j,m⟩:=h;refine (E5 g m l.1 l.2 b.1 b.2 a).mono ?_;rintro e B ⟨rfl,o,y,d,f,z,r,t,u⟩;obtain ⟨p,_,_⟩:=iU g.env.may m l.1 l.2 b.1;refine ⟨rfl,o,y,d,f,z,r,fun k n=>(t k n).elim (i k) (fun e=> .inr (Nat.le_trans j.size e)),j.trans u (fun k n e=>(i k e).elim id (fun e=>by omega)),p⟩
theorem jl.done [Kn] (_:zS E pp pb mb sb ch c w A q vr S recs vw s) (u:jl E pp pb mb sb ch c (wY w pb mb A q vr S vw) w x wr):
  Calls Tryz.prog 64 #[.pointer (some ⟨w.heap.size,0,none⟩)] wr fun e w'=>e= .returned (.string (bs x.2.2.2))∧tq E A pp pb mb sb ch c q vr S vw w x.1 x.2.1 x.2.2.1 w':=by
 obtain ⟨o,m,f,j,n,a,i,t,v⟩:=u;refine (mi 0 w.heap.size n x.2.2.2 wr a.bld).mono ?_;rintro e z ⟨rfl,b⟩;have r:∀k,an wr pb mb m f x.2.1 k→¬n.ownBlock=some k:=fun k e y=>(a.vd k y).2.2 e;obtain ⟨p,h⟩:=a.bag.chg b r;refine ⟨rfl,o,m,f,j,⟨a.env.chg b (fun k e y=>(a.vd k y).1 e),a.ses.chg b (fun k e y=>(a.vd k y).2.1 e),bC a.row b (fun g d y=>(a.wd g d).2.2.2.2 y),p,a.ea,fun k e y=>a.eb k e (h k y),fun k e y=>a.ab k e (h k y),fun g d=>⟨(a.wd g d).1,(a.wd g d).2.1,fun y=>(a.wd g d).2.2.1 (h g y)⟩⟩,fun k l=>?_,t.trans b (fun k l e=>?_)⟩
 ·rcases l with e | e | e
  ·exact i k (.inl e)
  ·exact i k (.inr (.inl (h k e)))
  ·exact i k (.inr (.inr (.inr (.inr e))))
 ·exact (i k (.inr (.inr (.inr (.inl e))))).elim id (fun e=>by omega)
theorem GV [Kn] (h:zS E pp pb mb sb ch c w A q vr S recs vw s) (hp:gM c s S recs) (a:List UInt8) (hl:a.length≤1048576):
  Calls Tryz.prog 40 #[.pointer (some ⟨sb,0,none⟩),.string (bs a)] w fun e w'=>e= .returned (.string (bs (cL c (s,S,recs,[]) a).2.2.2))∧tq E A pp pb mb sb ch c q vr S vw w (cL c (s,S,recs,[]) a).1 (cL c (s,S,recs,[]) a).2.1 (cL c (s,S,recs,[]) a).2.2.1 w':=by
 have a2:=aG a;have HH:=Lib.hid h;have HS:=Lib.hid (jl.start h hp);obtain ⟨W0,a0⟩:∃W0:World,w.alloc (.cells #[.pointer none,.slice none 0 0] 133)=W0:=⟨_,rfl⟩;rw [a0] at HS
 have Z:Hid (∀k,(cL c (s,S,recs,[]) (a.take k)).2.2.2.length≤1099511627776):=Lib.hid (fun k=>by
  have:=(qO h.env.may (a.take k) (s,S,recs,[]) hp).2;have h2:(a.take k).length≤a.length:=by rw [List.length_take];omega
  have h3:([]:List UInt8).length=0:=rfl;simp only at this
  omega)
 clear h hp;go_enter Tryz.func40,Tryz.ntmps40;go_wp2_with fail
 go_loopw [6,7,8,11] (fun _ _ _ i w'=>∃k:Nat,k≤a.length∧i= .int .i64 k∧Hid (jl E pp pb mb sb ch c (wY w pb mb A q vr S vw) w (cL c (s,S,recs,[]) (a.take k)) w')) (fun _ _ _ i _=>a.length - (intOf i).toNat)
 case atStart=>exact ⟨0,Nat.zero_le _,rfl,HS⟩
 case round=>
  clear HS;obtain ⟨k,D,rfl,K⟩:=hrel;have ho:=K.out.over;obtain ⟨x,ex⟩:∃x,cL c (s,S,recs,[]) (a.take k)=x:=⟨_,rfl⟩;rw [ex] at K ho;have F:=Lib.hid ex;clear ex
  by_cases a1:k < a.length
  case neg=>
   have t:Hid (cL c (s,S,recs,[]) a=x):=Lib.hid (by rw [←F.out,List.take_of_length_le (by omega)]);have Y:=Lib.hid (jl.done HH.out K.out);go_wp2_with fail
   refine Y.out.mono ?_;rintro e d ⟨rfl,f⟩;have u:=Lib.hid f;clear f;go_wp2_with fail
   go_ret;rw [t.out];exact ⟨rfl,u.out⟩
  case pos=>
   obtain ⟨ov,eo⟩:∃b,x.1.over=b:=⟨_,rfl⟩;rw [eo] at ho;have J:=Lib.hid eo;clear eo
   cases ov with
   | true=>
    have t:Hid (cL c (s,S,recs,[]) a=x):=Lib.hid (by
     have e1:cL c (s,S,recs,[]) a=cL c x (a.drop k):=by
      rw [←F.out];unfold cL;rw [←List.foldl_append,List.take_append_drop]
     rw [e1]
     exact uh J.out _)
    have Y:=Lib.hid (jl.done HH.out K.out);go_wp2_with fail
    refine Y.out.mono ?_;rintro e d ⟨rfl,f⟩;have u:=Lib.hid f;clear f;go_wp2_with fail
    go_ret;rw [t.out];exact ⟨rfl,u.out⟩
   | false=>
    obtain ⟨b,eb⟩:∃b,a[k]=b:=⟨_,rfl⟩;have T:=Gt a k (by omega);rw [eb] at T;have G:Hid (cL c (s,S,recs,[]) (a.take (k+1))=gQ c x b):=Lib.hid (by rw [CO c _ a k a1,F.out,eb]);have H:=Lib.hid (vQ x.1.wait b);have g:=Lib.hid (K.out.take (W:=wr.drew) ((Below.refl _ _).drew) b);have m:=Lib.hid (K.out.take (W:=(wr.alloc (.cells #[.string ⟨#[]⟩,.bool false] 138)).drew) (((Below.refl _ _).alloc (Nat.le_refl _) _).drew) b);have O:Hid ((wr.alloc (.cells #[.string ⟨#[]⟩,.bool false] 138)).drew.heap[wr.heap.size]? =some (.cells #[.string ⟨#[]⟩,.bool false] 138 (0,0))):=Lib.hid (heap_alloc_new wr _);obtain ⟨y,ey⟩:∃y,j4 x.1.wait b=y:=⟨_,rfl⟩;have N:=Lib.hid ey;rw [ey] at H g m;clear ey eb;obtain ⟨U,o⟩:=y
    cases o with
    | none=>
     have v:Hid (gQ c x b=({x.1 with wait:=U},x.2)):=Lib.hid (by
      unfold gQ;rw [J.out,N.out]
      rfl)
     simp only [th] at H g m;go_wp2_with fail
     go_region_law (first
      | (go_simp;go_at_call 66;refine g.out.mono ?_;rintro e d ⟨rfl,f,hs,D⟩;have u:=Lib.hid f;clear f D;dsimp only)
      | (go_simp;go_at_call 66;refine m.out.mono ?_;rintro e d ⟨rfl,f,hs,D⟩;have u:=Lib.hid f;have z:=D _ _ _ O.out;have q0:d.cell? ⟨wr.heap.size,0,none⟩=some (.string ⟨#[]⟩):=(by rw [Lib.cell_of_heap z];rfl);have q1:d.cell? ⟨wr.heap.size,1,none⟩=some (.bool false):=(by rw [Lib.cell_of_heap z];rfl);have qf:=fun j=>Lib.frozen_of_heap z j;have P:=Lib.hid z;clear f z D;dsimp only))
     ·have r:=Lib.hid (u.out _ (aH.below ((Below.refl _ d).alloc (Nat.le_refl _) (.cells #[.string ⟨#[]⟩,.bool false] 138))));go_wp2_with fail
      exact ⟨⟨k+1,by omega,by go_num,Lib.hid (by rw [G.out,v.out];exact r.out)⟩,by simp [intOf];omega⟩
     all_goals
      have r:=Lib.hid (u.out _ (Ec (x:= .string ⟨#[]⟩) (y:= .bool false) (bx:=wr.heap.size) ⟨Nat.le_refl _,by simp⟩));go_wp2_with fail
      exact ⟨⟨k+1,by omega,by go_num,Lib.hid (by rw [G.out,v.out];exact r.out)⟩,by simp [intOf];omega⟩
    | some l=>
     obtain ⟨p,n⟩:=l
     have v:Hid (gQ c x b=((aO c {x.1 with wait:=U} x.2.1 x.2.2.1 p n).1,(aO c {x.1 with wait:=U} x.2.1 x.2.2.1 p n).2.1,(aO c {x.1 with wait:=U} x.2.1 x.2.2.1 p n).2.2.1,x.2.2.2++(aO c {x.1 with wait:=U} x.2.1 x.2.2.1 p n).2.2.2.flatten)):=Lib.hid (by
      unfold gQ;rw [J.out,N.out]
      rfl)
     have L:Hid (x.2.2.2.length≤1099511627776):=Lib.hid (by have:=Z.out k;rw [F.out] at this;exact this);have M:=Lib.hid (H.out.2 (p,n) rfl);simp only [th] at H g m;go_wp2_with fail
     go_region_law (first
      | (go_simp;go_at_call 66;refine g.out.mono ?_;rintro e d ⟨rfl,f,hs,D⟩;have u:=Lib.hid f;clear f D;dsimp only)
      | (go_simp;go_at_call 66;refine m.out.mono ?_;rintro e d ⟨rfl,f,hs,D⟩;have u:=Lib.hid f;have z:=D _ _ _ O.out;have q0:d.cell? ⟨wr.heap.size,0,none⟩=some (.string ⟨#[]⟩):=(by rw [Lib.cell_of_heap z];rfl);have q1:d.cell? ⟨wr.heap.size,1,none⟩=some (.bool false):=(by rw [Lib.cell_of_heap z];rfl);have qf:=fun j=>Lib.frozen_of_heap z j;have P:=Lib.hid z;clear f z D;dsimp only))
     ·have Q:Below d.heap.size d (d.alloc (.cells #[.string (bs p),.bool n] 138)):=(Below.refl _ d).alloc (Nat.le_refl _) _;have V:=heap_alloc_new d (.cells #[.string (bs p),.bool n] 138);have r:=u.out _ (aH.below Q);obtain ⟨W9,C⟩:∃W:World,d.alloc (.cells #[.string (bs p),.bool n] 138)=W:=⟨_,rfl⟩;rw [C] at r V ⊢;have c0:W9.cell? ⟨d.heap.size,0,none⟩=some (.string (bs p)):=by rw [Lib.cell_of_heap V];rfl
      have c1:W9.cell? ⟨d.heap.size,1,none⟩=some (.bool n):=by rw [Lib.cell_of_heap V];rfl
      have X:=Lib.hid (r.line (p,n) M.out L.out);clear Q V r C g m;go_wp2_with fail
      refine X.out.mono ?_;rintro e w2 ⟨rfl,B⟩;have I:=Lib.hid B;clear B;go_wp2_with fail
      exact ⟨⟨k+1,by omega,by go_num,Lib.hid (by rw [G.out,v.out];exact I.out)⟩,by simp [intOf];omega⟩
     all_goals
      have S9:aL wr.heap.size d ((d.setCell ⟨wr.heap.size,0,none⟩ (.string (bs p))).setCell ⟨wr.heap.size,1,none⟩ (.bool n)):=((aL.refl _ _).setCell _).setCell _;obtain ⟨c0,c1,_⟩:=qC (x:= .string (bs p)) (y:= .bool n) P.out;have r:=u.out _ (Ec (x:= .string (bs p)) (y:= .bool n) (bx:=wr.heap.size) ⟨Nat.le_refl _,by simp⟩);obtain ⟨W9,C⟩:∃W:World,(d.setCell ⟨wr.heap.size,0,none⟩ (.string (bs p))).setCell ⟨wr.heap.size,1,none⟩ (.bool n)=W:=⟨_,rfl⟩;rw [C] at r c0 c1 ⊢;have X:=Lib.hid (r.line (p,n) M.out L.out);clear S9 r C g m q0 q1 qf;go_wp2_with fail
      refine X.out.mono ?_;rintro e w2 ⟨rfl,B⟩;have I:=Lib.hid B;clear B;go_wp2_with fail
      exact ⟨⟨k+1,by omega,by go_num,Lib.hid (by rw [G.out,v.out];exact I.out)⟩,by simp [intOf];omega⟩
end
def dI (c:bX) (addr:Int):bG:=⟨c.nets.any (iZ addr),false,false,false,[],none⟩
def mX (c:bX):List UInt8:=[50,50,48,32]++cQ c++[13,10]
theorem Hs {c:bX} (h:ij c=true):∀x∈c.nets,0≤x.2∧x.2≤32:=by
 unfold ij nr at h;simp only [Bool.and_eq_true] at h;obtain ⟨⟨⟨⟨⟨⟨⟨⟨_,_⟩,⟨_,a⟩⟩,_⟩,_⟩,_⟩,_⟩,_⟩,_⟩:=h;intro x b;have:=List.all_eq_true.1 a x b;unfold qg cF at this;simp only [Bool.and_eq_true,decide_eq_true_eq] at this;exact this.1.1
theorem aH.toBelow {B:Nat→Prop} {a b:World} {s:Nat} (h:aH B a b) (c:∀k,B k→s≤k) (f:s≤a.heap.size):Below s a b:=⟨h.still.1,h.still.2.1,h.still.2.2,h.size,fun k d=>h.block k (by omega) (fun e=>by have:=c k e;omega)⟩
theorem rk {w:World} {sb b f:Nat} {C:Array Value} {G:List (List UInt8)} {v:Value} {i:List UInt8} (A:bT w sb b C G) (Y:jE 0 w f v i) (y:sb≠f) (J:b≠f) (X:v.ownBlock≠some sb) (Z:∀l∈G,l.length≤1048576) (K:i.length+G.flatten.length≤140737488355328):
  Calls Tryz.prog 63 #[.pointer (some ⟨sb,0,none⟩),.pointer (some ⟨f,0,none⟩)] w fun e t=>e= .returned (.tuple #[])∧∃d,bT t sb b C []∧jE 0 t f d (i++G.flatten)∧(∀g,d.ownBlock=some g→v.ownBlock=some g∨w.heap.size≤g)∧aH (fun k=>k=b∨k=f∨v.ownBlock=some k) w t:=by
 obtain ⟨sq,r,D⟩:=A.chan
 have F:¬(sb=b∨sb=f∨v.ownBlock=some sb):=fun x=>by
  rcases x with x | x | x
  ·exact A.ne x
  ·exact y x
  ·exact X x
 let Bd:List UInt8→World→Prop:=fun a t=>∃d,jE 0 t f d a∧(∀g,d.ownBlock=some g→v.ownBlock=some g∨w.heap.size≤g)∧aH (fun k=>k=b∨k=f∨v.ownBlock=some k) w t∧∃m q p,t.heap[b]? =some (.chan 3 m false q p false)
 have P:=zB Bd sb b sq r false (.pointer (some ⟨f,0,none⟩)) G i w ?_ ?_ ?_ ⟨v,Y,fun g e=> .inl e,aH.refl _ _,_,_,_,D⟩ D Z K
 ·refine P.mono ?_;rintro e t ⟨rfl,q,p,⟨d,s,u,j,_⟩,c⟩;exact ⟨rfl,d,⟨j.some_ A.blk F,A.size,A.told,q,p,c⟩,s,u,j⟩
 ·rintro a l W ⟨d,s,u,j,m,q,p,c⟩ _ E
  have n:d.ownBlock≠some b:=fun e=>by
   obtain ⟨H,z,y⟩:=gB s.row e;rw [c] at y;cases y
  refine (r8 0 f d a l W s (Nat.zero_le _) E).mono ?_;rintro e Q ⟨⟨rv,rfl⟩,⟨v2,T,U⟩,I,V,O⟩
  have L:aH (fun k=>k=f∨d.ownBlock=some k) W Q:=⟨O,fun k B S=>by
   rw [Array.getElem?_eq_getElem B]
   exact I k _ (Array.getElem?_eq_getElem B) (fun e=>S (.inl e)) (fun e=>S (.inr e)),V⟩
  refine ⟨⟨rv,rfl⟩,⟨v2,T,fun g M=>(U g M).elim (u g) (fun e=> .inr (Nat.le_trans j.size e)),j.trans L (fun k B e=>e.elim (fun e=> .inr (.inl e)) (fun e=>(u k e).elim (fun e=> .inr (.inr e)) (fun e=>absurd B (by omega)))),m,q,p,I b _ c J n⟩,fun o ho=>I b o ho J n⟩
 ·rintro a W ⟨d,s,u,j,_⟩;rw [Lib.cell_of_heap (j.some_ A.blk F)];exact A.told
 ·rintro a W m h q p ⟨d,s,u,j,_⟩ c;have N:b < W.heap.size:=ah c;have R:aL b W (W.setChan b 3 h false q (p+1) false):=⟨by simp [World.setChan],fun k B=>by simp [World.setChan,Array.getElem?_setIfInBounds_ne (Ne.symm B)],⟨rfl,rfl,rfl⟩⟩
  have n:d.ownBlock≠some b:=fun e=>by
   obtain ⟨H,z,y⟩:=gB s.row e;rw [c] at y;cases y
  refine ⟨d,j6 s (aH.same R) (fun e=>J e.symm) (fun g M e=>n (by rw [←e];exact M)),u,j.trans (aH.same R) (fun _ _ e=> .inl e),h,q,p+1,Conc.heap_setChan W b 3 h false q (p+1) false N⟩
structure Cc (w W:World) (pp pb sb ch:Nat) (c:bX) (addr:Int):Prop where
 ses:bT W sb ch (iq pp pb ch (.slice none 0 0) (.pointer none) (dI c addr)) []
 sb:w.heap.size≤sb
 ch:w.heap.size≤ch
 below:Below w.heap.size w W
theorem Cc.first {w b:World} {f e:Nat} {c:bX} {a:Int} (d:Below (w.alloc (.chan 3 #[] false 0 0 false)).drew.heap.size (w.alloc (.chan 3 #[] false 0 0 false)).drew b):Cc w (b.alloc (.cells #[.pointer (some ⟨f,0,none⟩),.pointer (some ⟨e,0,none⟩),.slice none 0 0,.chan (some w.heap.size),.bool (c.nets.any (iZ a)),.bool false,.bool false,.bool false,.pointer none] 130)) f e b.heap.size w.heap.size c a:=by
 have j:(w.alloc (.chan 3 #[] false 0 0 false)).drew.heap[w.heap.size]? =some (.chan 3 #[] false 0 0 false):=heap_alloc_new w _;have g:Below b.heap.size b (b.alloc (.cells #[.pointer (some ⟨f,0,none⟩),.pointer (some ⟨e,0,none⟩),.slice none 0 0,.chan (some w.heap.size),.bool (c.nets.any (iZ a)),.bool false,.bool false,.bool false,.pointer none] 130)):=(Below.refl _ _).alloc (Nat.le_refl _) _;have i:w.heap.size+1≤b.heap.size:=by have:=d.size;simpa using this
 have h:Below w.heap.size w (w.alloc (.chan 3 #[] false 0 0 false)).drew:=((Below.refl _ _).alloc (Nat.le_refl _) _).drew;exact ⟨⟨heap_alloc_new b _,rfl,rfl,0,0,ae g (ae d j)⟩,by omega,Nat.le_refl _,(h.trans (d.mono (by simp))).trans (g.mono (by omega))⟩
theorem Cc.later {w a:World} {f e:Nat} {c:bX} {b:Int} (h:Below w.drew.heap.size w.drew a):Cc w ((a.alloc (.chan 3 #[] false 0 0 false)).alloc (.cells #[.pointer (some ⟨f,0,none⟩),.pointer (some ⟨e,0,none⟩),.slice none 0 0,.chan (some a.heap.size),.bool (c.nets.any (iZ b)),.bool false,.bool false,.bool false,.pointer none] 130)) f e (a.heap.size+1) a.heap.size c b:=by
 have k:(a.alloc (.chan 3 #[] false 0 0 false)).heap[a.heap.size]? =some (.chan 3 #[] false 0 0 false):=heap_alloc_new a _;have j:(a.alloc (.chan 3 #[] false 0 0 false)).heap.size=a.heap.size+1:=by simp
 have g:Below a.heap.size a (a.alloc (.chan 3 #[] false 0 0 false)):=(Below.refl _ _).alloc (Nat.le_refl _) _;obtain ⟨W,m⟩:∃W:World,a.alloc (.chan 3 #[] false 0 0 false)=W:=⟨_,rfl⟩;rw [m] at k j g ⊢;have i:Below W.heap.size W (W.alloc (.cells #[.pointer (some ⟨f,0,none⟩),.pointer (some ⟨e,0,none⟩),.slice none 0 0,.chan (some a.heap.size),.bool (c.nets.any (iZ b)),.bool false,.bool false,.bool false,.pointer none] 130)):=(Below.refl _ _).alloc (Nat.le_refl _) _;have d:w.heap.size≤a.heap.size:=h.size;have l:Below w.heap.size w w.drew:=(Below.refl _ _).drew;exact ⟨⟨by rw [←j];exact heap_alloc_new W _,rfl,rfl,0,0,ae i k⟩,by omega,d,((l.trans (h.mono (Nat.le_refl _))).trans (g.mono d)).trans (i.mono (by omega))⟩
def Ev (pp pb:Nat) (c:bX) (addr:Int) (w:World) (e:Ending) (w':World):Prop:=
 ∃sb ch,e= .returned (.tuple #[.pointer (some ⟨sb,0,none⟩),.string (bs (mX c))])∧bT w' sb ch (iq pp pb ch (.slice none 0 0) (.pointer none) (dI c addr)) []∧w.heap.size≤sb∧w.heap.size≤ch∧Below w.heap.size w w'
theorem EA {E:Nat→Prop} {d pb:Nat} {c:bX} {w:World} (he:gg E w d c) (h:Int):
  Calls Tryz.prog 37 #[.pointer (some ⟨d,0,none⟩),.pointer (some ⟨pb,0,none⟩),.int .i64 h] w (Ev d pb c h w):=by
 obtain ⟨vD,vN,vU,vW,I,_⟩:=he.set;have y0:w.cell? ⟨d,0,none⟩=some (.string c.host):=I.cell 0 (by decide);have y1:w.cell? ⟨d,1,none⟩=some vD:=I.cell 1 (by decide);have y2:w.cell? ⟨d,2,none⟩=some vN:=I.cell 2 (by decide);have y3:w.cell? ⟨d,3,none⟩=some vU:=I.cell 3 (by decide);have y4:w.cell? ⟨d,4,none⟩=some (.int .i64 c.most):=I.cell 4 (by decide);have y5:w.cell? ⟨d,5,none⟩=some (.int .i64 c.size):=I.cell 5 (by decide);have y6:w.cell? ⟨d,6,none⟩=some vW:=I.cell 6 (by decide);have y7:w.cell? ⟨d,7,none⟩=some (.int .i64 c.life):=I.cell 7 (by decide);have y8:w.cell? ⟨d,8,none⟩=some (.int .i64 c.room):=I.cell 8 (by decide);have u:∀(o:Obj) (j:Nat),(w.alloc o).cell? ⟨d,j,none⟩=w.cell? ⟨d,j,none⟩:=fun o j=>World.cell?_of_block (((Below.refl _ w).alloc (Nat.le_refl _) o).block d (he.lt d he.epp));have a0:∀o:Obj,(w.alloc o).cell? ⟨d,0,none⟩=some (.string c.host):=fun o=>(u o 0).trans y0;have a1:∀o:Obj,(w.alloc o).cell? ⟨d,1,none⟩=some (vD):=fun o=>(u o 1).trans y1;have a2:∀o:Obj,(w.alloc o).cell? ⟨d,2,none⟩=some (vN):=fun o=>(u o 2).trans y2;have a3:∀o:Obj,(w.alloc o).cell? ⟨d,3,none⟩=some (vU):=fun o=>(u o 3).trans y3;have a4:∀o:Obj,(w.alloc o).cell? ⟨d,4,none⟩=some (.int .i64 c.most):=fun o=>(u o 4).trans y4;have a5:∀o:Obj,(w.alloc o).cell? ⟨d,5,none⟩=some (.int .i64 c.size):=fun o=>(u o 5).trans y5;have a6:∀o:Obj,(w.alloc o).cell? ⟨d,6,none⟩=some (vW):=fun o=>(u o 6).trans y6;have a7:∀o:Obj,(w.alloc o).cell? ⟨d,7,none⟩=some (.int .i64 c.life):=fun o=>(u o 7).trans y7;have a8:∀o:Obj,(w.alloc o).cell? ⟨d,8,none⟩=some (.int .i64 c.room):=fun o=>(u o 8).trans y8;have b2:Hid (∀W:World,Below w.heap.size w W→Calls Tryz.prog 61 #[.agg #[.string c.host,vD,vN,vU,.int .i64 c.most,.int .i64 c.size,vW,.int .i64 c.life,.int .i64 c.room],.int .i64 h] W fun e w'=>e= .returned (.bool (c.nets.any (iZ h)))∧Below W.heap.size W w'):=Lib.hid (fun W hb=>AK c vD vN vU vW h W (I.rows.below hb) I.small.nets (fun x hx=>Hs I.may x hx));obtain ⟨i,hi,c0,c1,b5⟩:=info_parts uk;have b6:∀W:World,(Instr.makeChan 124 (.int .i64 3)).run Tryz.prog W= .ok (.chan (some W.heap.size)) (W.alloc (.chan 3 #[] false 0 0 false)):=fun W=>Conc.run_makeChan (n:=3) Tryz.underlying124 hi .i64 (by decide) (by rw [b5];decide);clear I u;have b0:d < w.heap.size:=he.lt d he.epp;have b7:=he.host.2;have J:Hid ((⟨#[50,50,48,32]⟩:ByteArray)++c.host=bs ([50,50,48,32]++cQ c)):=Lib.hid (cE [50,50,48,32] (cQ c)).symm;have b8:c.host.size=(cQ c).length:=by rw [←sT c,aG]
 go_enter Tryz.func37,Tryz.ntmps37;go_wp2_with fail
 go_region_law (first
  | (go_simp;go_at_call 61;refine (b2.out _ (by first | exact (Below.refl _ _).drew | exact ((Below.refl _ _).alloc (Nat.le_refl _) _).drew)).mono ?_;rintro e w1 ⟨rfl,a9⟩;dsimp only))
 all_goals
  have f:Hid (Cc w _ d pb _ _ c h):=Lib.hid (by first | exact Cc.first a9 | exact Cc.later a9);clear a9 b2
 ·
  obtain ⟨b,D⟩:∃W:World,w1.alloc (.cells #[.pointer (some ⟨d,0,none⟩),.pointer (some ⟨pb,0,none⟩),.slice none 0 0,.chan (some w.heap.size),.bool (c.nets.any (iZ h)),.bool false,.bool false,.bool false,.pointer none] 130)=W:=⟨_,rfl⟩;rw [D] at f ⊢;have a:=f.out.below;have T:=heap_alloc_new b (.cells #[.pointer none,.slice none 0 0] 133);have v:Below b.heap.size b (b.alloc (.cells #[.pointer none,.slice none 0 0] 133)):=(Below.refl _ _).alloc (Nat.le_refl _) _;obtain ⟨C,P⟩:∃W:World,b.alloc (.cells #[.pointer none,.slice none 0 0] 133)=W:=⟨_,rfl⟩;rw [P] at T v;have y3:C.cell? ⟨d,0,none⟩=some (.string c.host):=((a.trans (v.mono a.size)).cell (by exact b0)).trans y0;have s3:=f.out.ses.chg (aH.below v:aH (fun _=>False) b C) (fun e=>e) (fun e=>e);have l1:=ah f.out.ses.blk;have l2:_ < b.heap.size:=ah f.out.ses.chan.choose_spec.choose_spec;have HT:=Lib.hid (s3.tell (by simp) ([50,50,48,32]++cQ c) (by rw [List.length_append];simp;omega));have K:Hid (jE 0 C b.heap.size (.slice none 0 0) []):=Lib.hid ⟨⟨none,.inl rfl,T⟩,⟨rfl,.inl ⟨rfl,rfl⟩⟩,(by intro e;cases e)⟩;have L:=Lib.hid (a.trans (v.mono a.size));have p:b.heap.size≤C.heap.size:=v.size;have A:=Lib.hid l1;have r:=Lib.hid l2;clear a T v s3 l1 l2 D;go_wp2_with fail
  rw [J.out];refine HT.out.mono ?_;rintro e S ⟨rfl,X,m⟩;have U:jE 0 S b.heap.size (.slice none 0 0) []:=j6 K.out (aH.same m) (fun e=>by have:=r.out;omega) (by intro g e;cases e);have B:=Lib.hid (rk X U (by have:=A.out;omega) (by have:=r.out;omega) (by intro e;cases e) (by intro l Z;simp at Z;rw [Z];simp;omega) (by simp;omega));have q:=Lib.hid (L.out.trans (m.below f.out.ch));have b4:S.heap.size=C.heap.size:=m.1;clear X m U;go_wp2_with fail
  refine B.out.mono ?_;rintro e w5 ⟨rfl,v5,Y,t,H,F⟩;have R:w.heap.size≤b.heap.size:=f.out.below.size
  have V:=q.out.trans (F.toBelow (s:=w.heap.size) (fun k e=>by
   rcases e with e | e | e
   ·rw [e];exact f.out.ch
   ·rw [e];exact R
   ·cases e) q.out.size)
  have N:=Lib.hid (mi 0 b.heap.size v5 _ w5 t);have O:=Lib.hid H;have M:=Lib.hid Y;have y:=Lib.hid V;have b1:=Lib.hid t;clear Y t H F V B;go_wp2_with fail
  refine N.out.mono ?_;rintro e w6 ⟨rfl,G⟩;have z:=Lib.hid G;clear G;go_wp2_with fail
  go_ret2
  have Q:∀g,v5.ownBlock=some g→S.heap.size≤g:=fun g e=>(O.out g e).elim (fun e=>by cases e) id;refine ⟨_,_,rfl,M.out.chg z.out (fun e=>?_) (fun e=>?_),f.out.sb,f.out.ch,y.out.trans (z.out.toBelow (fun k e=>Nat.le_trans q.out.size (Q k e)) y.out.size)⟩
  ·have:=Q _ e;have:=A.out;have:=p;omega
  ·have:=Q _ e;have:=r.out;have:=p;omega
 ·
  obtain ⟨b,D⟩:∃W:World,w1.alloc (.cells #[.pointer (some ⟨d,0,none⟩),.pointer (some ⟨pb,0,none⟩),.slice none 0 0,.chan (some w.heap.size),.bool (c.nets.any (iZ h)),.bool false,.bool false,.bool false,.pointer none] 130)=W:=⟨_,rfl⟩;rw [D] at f ⊢;have a:=f.out.below;have T:=heap_alloc_new b (.cells #[.pointer none,.slice none 0 0] 133);have v:Below b.heap.size b (b.alloc (.cells #[.pointer none,.slice none 0 0] 133)):=(Below.refl _ _).alloc (Nat.le_refl _) _;obtain ⟨C,P⟩:∃W:World,b.alloc (.cells #[.pointer none,.slice none 0 0] 133)=W:=⟨_,rfl⟩;rw [P] at T v;have y3:C.cell? ⟨d,0,none⟩=some (.string c.host):=((a.trans (v.mono a.size)).cell (by exact b0)).trans y0;have s3:=f.out.ses.chg (aH.below v:aH (fun _=>False) b C) (fun e=>e) (fun e=>e);have l1:=ah f.out.ses.blk;have l2:_ < b.heap.size:=ah f.out.ses.chan.choose_spec.choose_spec;have HT:=Lib.hid (s3.tell (by simp) ([50,50,48,32]++cQ c) (by rw [List.length_append];simp;omega));have K:Hid (jE 0 C b.heap.size (.slice none 0 0) []):=Lib.hid ⟨⟨none,.inl rfl,T⟩,⟨rfl,.inl ⟨rfl,rfl⟩⟩,(by intro e;cases e)⟩;have L:=Lib.hid (a.trans (v.mono a.size));have p:b.heap.size≤C.heap.size:=v.size;have A:=Lib.hid l1;have r:=Lib.hid l2;clear a T v s3 l1 l2 D;go_wp2_with fail
  rw [J.out];refine HT.out.mono ?_;rintro e S ⟨rfl,X,m⟩;have U:jE 0 S b.heap.size (.slice none 0 0) []:=j6 K.out (aH.same m) (fun e=>by have:=r.out;omega) (by intro g e;cases e);have B:=Lib.hid (rk X U (by have:=A.out;omega) (by have:=r.out;omega) (by intro e;cases e) (by intro l Z;simp at Z;rw [Z];simp;omega) (by simp;omega));have q:=Lib.hid (L.out.trans (m.below f.out.ch));have b4:S.heap.size=C.heap.size:=m.1;clear X m U;go_wp2_with fail
  refine B.out.mono ?_;rintro e w5 ⟨rfl,v5,Y,t,H,F⟩;have R:w.heap.size≤b.heap.size:=f.out.below.size
  have V:=q.out.trans (F.toBelow (s:=w.heap.size) (fun k e=>by
   rcases e with e | e | e
   ·rw [e];exact f.out.ch
   ·rw [e];exact R
   ·cases e) q.out.size)
  have N:=Lib.hid (mi 0 b.heap.size v5 _ w5 t);have O:=Lib.hid H;have M:=Lib.hid Y;have y:=Lib.hid V;have b1:=Lib.hid t;clear Y t H F V B;go_wp2_with fail
  refine N.out.mono ?_;rintro e w6 ⟨rfl,G⟩;have z:=Lib.hid G;clear G;go_wp2_with fail
  go_ret2
  have Q:∀g,v5.ownBlock=some g→S.heap.size≤g:=fun g e=>(O.out g e).elim (fun e=>by cases e) id;refine ⟨_,_,rfl,M.out.chg z.out (fun e=>?_) (fun e=>?_),f.out.sb,f.out.ch,y.out.trans (z.out.toBelow (fun k e=>Nat.le_trans q.out.size (Q k e)) y.out.size)⟩
  ·have:=Q _ e;have:=A.out;have:=p;omega
  ·have:=Q _ e;have:=r.out;have:=p;omega
 ·
  obtain ⟨b,D⟩:∃W:World,(w1.alloc (.chan 3 #[] false 0 0 false)).alloc (.cells #[.pointer (some ⟨d,0,none⟩),.pointer (some ⟨pb,0,none⟩),.slice none 0 0,.chan (some w1.heap.size),.bool (c.nets.any (iZ h)),.bool false,.bool false,.bool false,.pointer none] 130)=W:=⟨_,rfl⟩;rw [D] at f ⊢;have a:=f.out.below;have T:=heap_alloc_new b (.cells #[.pointer none,.slice none 0 0] 133);have v:Below b.heap.size b (b.alloc (.cells #[.pointer none,.slice none 0 0] 133)):=(Below.refl _ _).alloc (Nat.le_refl _) _;obtain ⟨C,P⟩:∃W:World,b.alloc (.cells #[.pointer none,.slice none 0 0] 133)=W:=⟨_,rfl⟩;rw [P] at T v;have y3:C.cell? ⟨d,0,none⟩=some (.string c.host):=((a.trans (v.mono a.size)).cell (by exact b0)).trans y0;have s3:=f.out.ses.chg (aH.below v:aH (fun _=>False) b C) (fun e=>e) (fun e=>e);have l1:=ah f.out.ses.blk;have l2:_ < b.heap.size:=ah f.out.ses.chan.choose_spec.choose_spec;have HT:=Lib.hid (s3.tell (by simp) ([50,50,48,32]++cQ c) (by rw [List.length_append];simp;omega));have K:Hid (jE 0 C b.heap.size (.slice none 0 0) []):=Lib.hid ⟨⟨none,.inl rfl,T⟩,⟨rfl,.inl ⟨rfl,rfl⟩⟩,(by intro e;cases e)⟩;have L:=Lib.hid (a.trans (v.mono a.size));have p:b.heap.size≤C.heap.size:=v.size;have A:=Lib.hid l1;have r:=Lib.hid l2;clear a T v s3 l1 l2 D;go_wp2_with fail
  rw [J.out];refine HT.out.mono ?_;rintro e S ⟨rfl,X,m⟩;have U:jE 0 S b.heap.size (.slice none 0 0) []:=j6 K.out (aH.same m) (fun e=>by have:=r.out;omega) (by intro g e;cases e);have B:=Lib.hid (rk X U (by have:=A.out;omega) (by have:=r.out;omega) (by intro e;cases e) (by intro l Z;simp at Z;rw [Z];simp;omega) (by simp;omega));have q:=Lib.hid (L.out.trans (m.below f.out.ch));have b4:S.heap.size=C.heap.size:=m.1;clear X m U;go_wp2_with fail
  refine B.out.mono ?_;rintro e w5 ⟨rfl,v5,Y,t,H,F⟩;have R:w.heap.size≤b.heap.size:=f.out.below.size
  have V:=q.out.trans (F.toBelow (s:=w.heap.size) (fun k e=>by
   rcases e with e | e | e
   ·rw [e];exact f.out.ch
   ·rw [e];exact R
   ·cases e) q.out.size)
  have N:=Lib.hid (mi 0 b.heap.size v5 _ w5 t);have O:=Lib.hid H;have M:=Lib.hid Y;have y:=Lib.hid V;have b1:=Lib.hid t;clear Y t H F V B;go_wp2_with fail
  refine N.out.mono ?_;rintro e w6 ⟨rfl,G⟩;have z:=Lib.hid G;clear G;go_wp2_with fail
  go_ret2
  have Q:∀g,v5.ownBlock=some g→S.heap.size≤g:=fun g e=>(O.out g e).elim (fun e=>by cases e) id;refine ⟨_,_,rfl,M.out.chg z.out (fun e=>?_) (fun e=>?_),f.out.sb,f.out.ch,y.out.trans (z.out.toBelow (fun k e=>Nat.le_trans q.out.size (Q k e)) y.out.size)⟩
  ·have:=Q _ e;have:=A.out;have:=p;omega
  ·have:=Q _ e;have:=r.out;have:=p;omega
open Go.ChangeMaps (setBlock)
theorem Ic (l:List (Nat×List UInt8)):∀u∈aR l,u.oneCell'=true:=by
 intro u a;unfold aR at a;obtain ⟨x,_,b⟩:=List.mem_flatMap.1 a;simp only [List.mem_cons,List.not_mem_nil,or_false] at b
 rcases b with rfl | rfl <;> rfl
theorem Cs (l:List (Nat×List UInt8)) (v:Value) (w:World) (h:bg w v l.length 2 (aR l)) (J:l.length≤255):
  Calls Tryz.prog 82 #[v] w fun e A=>∃a c,e= .returned (.slice a l.length c)∧A.ownsRow w.heap.size 162 2 (.slice a l.length c) l.length (aR l)∧Below w.heap.size w A:=by
 obtain ⟨a,f,G⟩:=aE h;subst G
 cases a with
 | none=>
  have i:l.length=0:=by
   rcases h.2 with ⟨i,_⟩ | ⟨b,H,r,e,_⟩
   ·exact i
   ·cases e
  have m:l=[]:=List.length_eq_zero_iff.1 i;subst m;clear h;have I:=fun (w:World) (a:Option Addr) (n c o d:Nat)=>Lib.run_eql_slice_nil (P:=Tryz.prog) w 102 _ a n c o d Tryz.underlying102;go_enter Tryz.func82,Tryz.ntmps82;go_wp2_with fail
  go_ret;exact ⟨none,0,rfl,World.ownsRow_nil _ _ _ _,Below.refl _ _⟩
 | some a=>
  have z:(w.alloc (.cells #[] 162)).heap[w.heap.size]? =some (.cells #[] 162 (0,0)):=heap_alloc_new w _;obtain ⟨g,F,p,y,x,t,j⟩:=kr (P:=Tryz.prog) (w.alloc (.cells #[] 162)) 102 102 162 (.agg #[.int .i64 0,.string ⟨#[]⟩]) 2 24 Tryz.underlying102 lR rfl (by decide) w.heap.size z (.slice (some a) l.length f) l.length (aR l) (h.below ((Below.refl _ _).alloc (Nat.le_refl _) _)) (Ic l) (by unfold maxLen;omega) (by omega);have s:Below w.heap.size w p:=((Below.refl w.heap.size w).alloc (Nat.le_refl _) _).grown t (by simp) (fun k u=>by injection u with u;omega);have E:=Lib.hid y;have C:=Lib.hid x;have B:=Lib.hid s;clear y x s t j z h;have I:=fun (w:World) (a:Option Addr) (n c o d:Nat)=>Lib.run_eql_slice_nil (P:=Tryz.prog) w 102 _ a n c o d Tryz.underlying102;go_enter Tryz.func82,Tryz.ntmps82
  go_wp2_with (first
   | (at_builtin;refine bB rfl _ _ 102 rfl _ _ (.slice (some ⟨g,0,none⟩) l.length F) p rfl rfl E.out ?_)
   | fail)
  go_ret;exact ⟨_,_,rfl,C.out,B.out⟩
structure D5 (w W:World) (mb:Nat) (q:Nat→Nat) (S:aa) (D:Nat→Int×Int) (seen:Array Nat) (v:Value) (L:List Nat):Prop where
 below:Below w.heap.size w W
 big:w.heap.size+2≤W.heap.size
 out:W.heap[w.heap.size]? =some (.cells #[.int .i64 0,.string ⟨#[]⟩,.slice none 0 0,.string ⟨#[]⟩] 104 (0,0))
 it:W.heap[w.heap.size+1]? =some (.mapIter (some mb) S.items.length seen S.items.length)
 row:W.ownsRow 0 3 1 v L.length ((iK L).map fun (i:Int)=> .int .i64 i)
 own:∀k,v.ownBlock=some k→w.heap.size+2≤k
 mem:∀i∈L,i∈S.live∧(D i).1≤S.time
 all:∀i∈S.live,seen.contains i=true→(D i).1≤S.time→i∈L
 cnt:L.length+(Go.leftOf (cO q S.live) seen).size≤S.live.length
section
variable {w W W':World} {mb:Nat} {q:Nat→Nat} {S:aa} {D:Nat→Int×Int} {seen:Array Nat} {v v':Value} {L:List Nat}
theorem D5.keep (h:D5 w W mb q S D seen v L) (a:Below W.heap.size W W'):D5 w W' mb q S D seen v L:=
 ⟨h.below.trans (a.mono (by have:=h.big;omega)),Nat.le_trans h.big a.size,ae a h.out,ae a h.it,aA h.row fun _ _ e _=>ae a e,h.own,h.mem,h.all,h.cnt⟩
theorem D5.step (h:D5 w W mb q S D seen v L) {i:Nat} (m:nM q i∈(Go.leftOf (cO q S.live) seen).toList) (l:¬(D i).1≤S.time):D5 w (setBlock W (w.heap.size+1) (.mapIter (some mb) S.items.length (seen.push i) S.items.length)) mb q S D (seen.push i) v L:=by
 have c:=ke W (w.heap.size+1) (.mapIter (some mb) S.items.length (seen.push i) S.items.length);have d:=nT m;have d:(Go.leftOf (cO q S.live) (seen.push i)).size < (Go.leftOf (cO q S.live) seen).size:=d;refine ⟨h.below.trans (c.below (by omega)),by rw [c.1];exact h.big,aP c h.out (by omega),s9 (ah h.it) _,aA h.row fun g f e _=>aP c e fun k=>?_,h.own,h.mem,fun j n b a=>?_,by have:=h.cnt;omega⟩
 ·rw [k,h.it] at e;simp at e
 ·rw [Array.contains_push,Bool.or_eq_true] at b
  rcases b with b | b
  ·exact h.all j n b a
  ·have:j=i:=by simpa using b
   rw [this] at a;exact absurd a l
theorem D5.plus (h:D5 w W mb q S D seen v L) {i:Nat} (H:i∈S.live) (G:nM q i∈(Go.leftOf (cO q S.live) seen).toList) (F:(D i).1≤S.time) {b s:World} (A:b=W∨b=W.drew) (r:aL (w.heap.size+1) b (setBlock b (w.heap.size+1) (.mapIter (some mb) S.items.length (seen.push i) S.items.length))) (m:Below (setBlock b (w.heap.size+1) (.mapIter (some mb) S.items.length (seen.push i) S.items.length)).heap.size (setBlock b (w.heap.size+1) (.mapIter (some mb) S.items.length (seen.push i) S.items.length)) W') (p:aH (fun k=>v.ownBlock=some k) W' s) (C:s.ownsRow 0 3 1 v' (L.length+1) (((iK L).map fun (i:Int)=> .int .i64 i)++[.int .i64 ((i:Int)+1)])) (I:∀g,v'.ownBlock=some g→v.ownBlock=some g∨W'.heap.size≤g):D5 w s mb q S D (seen.push i) v' (L++[i]):=by
 have B:=nT G;have B:(Go.leftOf (cO q S.live) (seen.push i)).size < (Go.leftOf (cO q S.live) seen).size:=B;have z:b.heap=W.heap:=by rcases A with e | e <;> rw [e];rfl
 have y:w.heap.size+2≤b.heap.size:=by rw [z];exact h.big
 have E:Below w.heap.size w b:=by rcases A with e | e <;> rw [e];exact h.below;exact h.below.drew
 obtain ⟨o,l⟩:∃o,setBlock b (w.heap.size+1) (.mapIter (some mb) S.items.length (seen.push i) S.items.length)=o:=⟨_,rfl⟩;have x:o.heap[w.heap.size+1]? =some (.mapIter (some mb) S.items.length (seen.push i) S.items.length):=by rw [←l];exact s9 (by omega) _
 rw [l] at r m;have J:=r.1;have f:w.heap.size+2≤W'.heap.size:=by have:=m.size;omega
 have c:∀k,k < w.heap.size+2→¬v.ownBlock=some k:=fun k K e=>by have:=h.own k e;omega
 have n:o.heap[w.heap.size]? =some (.cells #[.int .i64 0,.string ⟨#[]⟩,.slice none 0 0,.string ⟨#[]⟩] 104 (0,0)):=aP r (by rw [z];exact h.out) (by omega);have t:Below w.heap.size w W':=(E.trans (r.below (by omega))).trans (m.mono (by omega));refine ⟨t.trans ?_,Nat.le_trans f p.size,p.some_ (ae m n) (c _ (by omega)),p.some_ (ae m x) (c _ (by omega)),?_,fun k e=>(I k e).elim (h.own k) (fun e=>by omega),fun j d=>?_,fun j d a u=>?_,by rw [List.length_append];have:=h.cnt;simp only [List.length_cons,List.length_nil];omega⟩
 ·exact p.toBelow (fun k e=>by have:=h.own k e;omega) (by omega)
 ·rw [List.length_append];unfold iK at C ⊢;rw [List.map_append,List.map_append];exact C
 ·rw [List.mem_append,List.mem_singleton] at d
  rcases d with d | rfl
  ·exact h.mem j d
  ·exact ⟨H,F⟩
 ·rw [Array.contains_push,Bool.or_eq_true] at a;rw [List.mem_append,List.mem_singleton]
  rcases a with a | a
  ·exact .inl (h.all j d a u)
  ·exact .inr (by simpa using a)
end
structure ca where
 addr:Int
 known:Bool
 inside:Bool
 closed:Bool
 tos:List (List UInt8)
def dd (out:List UInt8):List UInt8:=if 4≤out.length then out.take 3 else []
def mf:List UInt8:=[50,53,48]
def vH:List UInt8:=[51,53,52]
def vG:List UInt8:=[50,51,53]
def Jx:List UInt8:=[50,50,49]
def uK (x:ca) (t:List UInt8):Bool:=xJ t || decide (x.addr / 256=1) || x.known
def gH (x:ca) (l out:List UInt8):ca:=
 if x.inside=true∧l≠[46] then x
 else if x.inside=true then {x with inside:=false,tos:=[]}
 else if dd out=vH then {x with inside:=true}
 else if dd out=vG∧bu l mg=true then {x with known:=true}
 else if dd out=mf∧bu l gZ=true then {x with tos:=jF x.tos (fV l)}
 else if bu l fT=true then {x with closed:=true}
 else if j3 l=true∧dd out=mf then {x with tos:=[]}
 else x
def fL (x:ca) (l out:List UInt8):List aX:=
 if x.inside=true∧l=[46]∧dd out=mf then [⟨kB out,0,[],x.tos,[]⟩] else []
def dp (x:ca) (l out:List UInt8):Bool:=
 if x.inside=true∧l≠[46] then decide (out≠[])
 else if x.inside=true then decide (dd out=mf) && !(x.tos.all (uK x))
 else if dd out=vH then false
 else if dd out=vG∧bu l mg=true then false
 else if dd out=mf∧bu l gZ=true then false
 else if bu l fT=true then decide (dd out≠Jx)
 else false
def JG (s:bG):Bool:=(s.tx.bind (·.body)).isSome
def IL (s:bG):List (List UInt8):=match s.tx with | some t=>t.tos | none=>[]
structure km (x:ca) (s:bG):Prop where
 closed:x.closed=false
 over:s.over=false
 wait:s.wait=[]
 known:x.known=s.known
 inside:x.inside=JG s
 tos:x.tos=IL s
 nets:s.nets=true→x.addr / 256=1
 may:∀t∈x.tos,uK x t=true
 addr:0≤x.addr∧x.addr < 1000
def fj (x:ca):Option bG→Prop
 | none=>x.closed=true
 | some s=>km x s
theorem fj.of {x:ca} {s:bG} (h:km x s):fj x (if s.over then none else some s):=by
 rw [if_neg (by rw [h.over];decide)];exact h
theorem o8:∀(k n a:Nat),n < 10 ^ (k+1)→∃e,(Lib.decDigits n).foldl mH a=a * 10 ^ e+n
 | 0,n,a,h=>by
  have h:n < 10:=by omega
  refine ⟨1,?_⟩;rw [Lib.decDigits,dif_pos h];show mH a (UInt8.ofNat (48+n))=_;unfold mH;have e:(UInt8.ofNat (48+n)).toNat=48+n:=by rw [UInt8.toNat_ofNat'];omega
  rw [e,if_pos (by omega)];omega
 | k+1,n,a,h=>by
  by_cases b:n < 10
  ·refine ⟨1,?_⟩;rw [Lib.decDigits,dif_pos b];show mH a (UInt8.ofNat (48+n))=_;unfold mH;have e:(UInt8.ofNat (48+n)).toNat=48+n:=by rw [UInt8.toNat_ofNat'];omega
   rw [e,if_pos (by omega)];omega
  ·obtain ⟨e,f⟩:=o8 k (n / 10) a (by rw [Nat.pow_succ] at h;omega);refine ⟨e+1,?_⟩;rw [Lib.decDigits,dif_neg b,List.foldl_append,f];show mH (a * 10 ^ e+n / 10) (UInt8.ofNat (48+n % 10))=_;unfold mH;have d:(UInt8.ofNat (48+n % 10)).toNat=48+n % 10:=by rw [UInt8.toNat_ofNat'];omega
   rw [d,if_pos (by omega),Nat.pow_succ,←Nat.mul_assoc];omega
theorem H6 (n:Nat):kB ([50,53,48,32,107,101,112,116,32]++Lib.itoa (n:Int)++[13,10])=n:=by
 have a:Lib.itoa (n:Int)=Lib.decDigits n:=by
  unfold Lib.itoa;rw [if_neg (by omega),Int.toNat_natCast]
 unfold kB;rw [a,List.append_assoc,List.drop_append_of_le_length (by decide),List.foldl_append,List.foldl_append];have b:(([50,53,48,32,107,101,112,116,32]:List UInt8).drop 4).foldl mH 0=0:=by decide
 obtain ⟨k,f⟩:∃k,n < 10 ^ (k+1):=⟨n,Nat.lt_of_lt_of_le (Nat.lt_pow_self (by decide:1 < 10)) (Nat.pow_le_pow_right (by decide) (Nat.le_succ n))⟩;obtain ⟨e,d⟩:=o8 k n 0 f;rw [b,d,Nat.zero_mul,Nat.zero_add];show mH (mH n 13) 10=n;unfold mH;rw [if_neg (by decide),if_neg (by decide)]
theorem pE (a b c e:UInt8) (r:List UInt8):dd (a::b::c::e::r)=[a,b,c]:=by
 unfold dd;rw [if_pos (by simp)];rfl
section
variable {c:bX} {x:ca} {s:bG} {S:aa} {recs l:List UInt8}
theorem qk (e:x.inside=false) {out:List UInt8} (a:dd out≠vH) (b:dd out≠vG) (d:dd out≠mf):gH x l out=(if bu l fT=true then {x with closed:=true} else x)∧fL x l out=[]∧dp x l out=if bu l fT=true then decide (dd out≠Jx) else false:=by
 unfold gH fL dp;simp [e,a,b,d]
theorem iP (b:x.inside=false) {out:List UInt8} (a:dd out=mf):gH x l out=(if bu l gZ=true then {x with tos:=jF x.tos (fV l)} else if bu l fT=true then {x with closed:=true} else if j3 l=true then {x with tos:=[]} else x)∧fL x l out=[]∧dp x l out=if bu l gZ=true then false else if bu l fT=true then decide (dd out≠Jx) else false:=by
 have d:mf≠vH:=by decide
 have e:mf≠vG:=by decide
 unfold gH fL dp;simp [b,a,d,e]
theorem BF (b:x.inside=false) {out:List UInt8} (a:dd out=vH):gH x l out={x with inside:=true}∧fL x l out=[]∧dp x l out=false:=by
 unfold gH fL dp;simp [b,a]
theorem BC (d:x.inside=false) {out:List UInt8} (a:dd out=vG) (b:bu l mg=true):gH x l out={x with known:=true}∧fL x l out=[]∧dp x l out=false:=by
 have e:vG≠vH:=by decide
 unfold gH fL dp;simp [d,a,e,b]
theorem Gv (C:tr l) (Z:c.doms=na) (h:km x s) (j:x.inside=false):fj (gH x l (bz c s (bn l false)).2.flatten) (if (bz c s (bn l false)).1.over then none else some (bz c s (bn l false)).1)∧fL x l (bz c s (bn l false)).2.flatten=[]∧dp x l (bz c s (bn l false)).2.flatten=false:=by
 have M:=C.quit;have G:=C.over;have H:=C.overs;have F:=C.auth;have Q:=C.rcpt;have E:=C.addr;have hm:=C.most;obtain ⟨k,W⟩:∃k,bn l false=k:=⟨_,rfl⟩;rw [W] at M G H F Q E hm ⊢
 have r:∀g,dd g≠vH→dd g≠vG→dd g≠mf→k.verb≠2→fj (gH x l g) (if s.over then none else some s)∧fL x l g=[]∧dp x l g=false:=fun g i n D X=>by
  obtain ⟨a,b,e⟩:=qk (l:=l) j i n D;have q0:bu l fT=false:=by rw [M,beq_eq_false_iff_ne];exact X
  rw [a,b,e,q0];exact ⟨fj.of h,rfl,rfl⟩
 have T:dd ni=[53,48,51]:=rfl
 by_cases d:fO s k.verb=false
 ·have e:bz c s k=(s,[ni]):=by unfold bz;rw [if_pos d]
  rw [e];have R:k.verb≠2:=fun e=>by rw [e] at d;cases d
  exact r ([ni]:List (List UInt8)).flatten (by decide) (by decide) (by decide) R
 have hv:k.verb=0∨k.verb=1∨k.verb=2∨k.verb=3∨k.verb=4∨k.verb=5∨k.verb=6∨k.verb=7∨k.verb=8∨k.verb=9∨k.verb=10:=by omega
 have K:k.verb≠2→bu l fT=false:=fun e=>by rw [M,beq_eq_false_iff_ne];exact e
 have L:k.verb≠10→bu l gZ=false:=fun e=>by rw [Q,beq_eq_false_iff_ne];exact e
 rcases hv with v | v | v | v | v | v | v | v | v | v | v
 ·have e:bz c s k=(s,[zm]):=by unfold bz;rw [if_neg d];simp only [v]
  rw [e];exact r ([zm]:List (List UInt8)).flatten (by decide) (by decide) (by decide) (by omega)
 ·have e:bz c s k=(s,[G8]):=by unfold bz;rw [if_neg d];simp only [v]
  rw [e];exact r ([G8]:List (List UInt8)).flatten (by decide) (by decide) (by decide) (by omega)
 ·have e:bz c s k=({s with over:=true},[G7]):=by unfold bz;rw [if_neg d];simp only [v]
  rw [e];obtain ⟨a,b,f⟩:=qk (l:=l) j (out:=([G7]:List (List UInt8)).flatten) (by decide) (by decide) (by decide);have q1:bu l fT=true:=by rw [M,v];rfl
  rw [a,b,f,q1];exact ⟨rfl,rfl,by decide⟩
 ·have e:bz c s k=(s,[jD]):=by unfold bz;rw [if_neg d];simp only [v]
  rw [e];obtain ⟨a,b,f⟩:=iP (l:=l) j (out:=([jD]:List (List UInt8)).flatten) (by decide);have o0:j3 l=false:=by rw [←Bool.not_eq_true];intro e;have:=H e;omega
  rw [a,b,f,L (by omega),K (by omega),o0];exact ⟨fj.of h,rfl,rfl⟩
 ·have e:bz c s k=({s with tx:=none},[jD]):=by unfold bz;rw [if_neg d];simp only [v]
  rw [e];obtain ⟨a,b,f⟩:=iP (l:=l) j (out:=([jD]:List (List UInt8)).flatten) (by decide);rw [a,b,f,L (by omega),K (by omega),G (by omega)];exact ⟨fj.of ⟨h.closed,h.over,h.wait,h.known,j,rfl,h.nets,(fun t m=>by cases m),h.addr⟩,rfl,rfl⟩
 ·cases m:s.tx with
  | none=>
   rw [v] at d;unfold fO at d;rw [m] at d;exact absurd rfl d
  | some t=>
   have e:bz c s k=({s with tx:=some {t with body:=some ⟨[],false,false⟩}},[zl]):=by unfold bz;rw [if_neg d];simp only [v,m]
   rw [e];obtain ⟨a,b,f⟩:=BF (l:=l) j (out:=([zl]:List (List UInt8)).flatten) (by decide);rw [a,b,f];exact ⟨fj.of ⟨h.closed,h.over,h.wait,h.known,rfl,by have:=h.tos;unfold IL at this;rw [m] at this;exact this,h.nets,h.may,h.addr⟩,rfl,rfl⟩
 ·have e:bz c s k=({s with greeted:=true,tx:=none},[[50,53,48,32]++cQ c++[13,10]]):=by unfold bz;rw [if_neg d];simp only [v]
  rw [e];obtain ⟨a,b,f⟩:=iP (l:=l) j (out:=([[50,53,48,32]++cQ c++[13,10]]:List (List UInt8)).flatten) (by rw [List.flatten_cons,List.append_assoc,List.append_assoc];exact pE _ _ _ _ _);rw [a,b,f,L (by omega),K (by omega),G (by omega)];exact ⟨fj.of ⟨h.closed,h.over,h.wait,h.known,j,rfl,h.nets,(fun t m=>by cases m),h.addr⟩,rfl,rfl⟩
 ·obtain ⟨q,e⟩:∃q,bz c s k=({s with greeted:=true,tx:=none},([50,53,48,45]++cQ c++[13,10])::q):=by unfold bz;rw [if_neg d];simp only [v];exact ⟨_,rfl⟩
  rw [e];obtain ⟨a,b,f⟩:=iP (l:=l) j (out:=(([50,53,48,45]++cQ c++[13,10])::q:List (List UInt8)).flatten) (by rw [List.flatten_cons,List.append_assoc,List.append_assoc];exact pE _ _ _ _ _);rw [a,b,f,L (by omega),K (by omega),G (by omega)];exact ⟨fj.of ⟨h.closed,h.over,h.wait,h.known,j,rfl,h.nets,(fun t m=>by cases m),h.addr⟩,rfl,rfl⟩
 ·by_cases i:(s.tx.isSome || s.known)=true
  ·have e:bz c s k=(s,[ni]):=by unfold bz;rw [if_neg d];simp only [v];rw [if_pos i]
   rw [e];exact r ([ni]:List (List UInt8)).flatten (by decide) (by decide) (by decide) (by omega)
  ·by_cases n:c.users.any (iV (bs k.shown))=true
   ·have e:bz c s k=({s with known:=true},[Fe]):=by unfold bz;rw [if_neg d];simp only [v];rw [if_neg i,if_pos n]
    rw [e];obtain ⟨a,b,f⟩:=BC (l:=l) j (out:=([Fe]:List (List UInt8)).flatten) (by decide) (by rw [F,v];rfl);rw [a,b,f];exact ⟨fj.of ⟨h.closed,h.over,h.wait,rfl,h.inside,h.tos,h.nets,(fun t _=>by unfold uK;simp),h.addr⟩,rfl,rfl⟩
   ·have e:bz c s k=(s,[G9]):=by unfold bz;rw [if_neg d];simp only [v];rw [if_neg i,if_neg n]
    rw [e];exact r ([G9]:List (List UInt8)).flatten (by decide) (by decide) (by decide) (by omega)
 ·by_cases i:s.tx.isSome=true
  ·have e:bz c s k=(s,[ni]):=by unfold bz;rw [if_neg d];simp only [v];rw [if_pos i]
   rw [e];exact r ([ni]:List (List UInt8)).flatten (by decide) (by decide) (by decide) (by omega)
  ·by_cases n:c.size < (k.size:Int)
   ·have e:bz c s k=(s,[uw]):=by unfold bz;rw [if_neg d];simp only [v];rw [if_neg i,if_pos n]
    rw [e];exact r ([uw]:List (List UInt8)).flatten (by decide) (by decide) (by decide) (by omega)
   ·have e:bz c s k=({s with tx:=some ⟨k.name,[],none⟩},[jD]):=by unfold bz;rw [if_neg d];simp only [v];rw [if_neg i,if_neg n]
    rw [e];obtain ⟨a,b,f⟩:=iP (l:=l) j (out:=([jD]:List (List UInt8)).flatten) (by decide);rw [a,b,f,L (by omega),K (by omega),G (by omega)];exact ⟨fj.of ⟨h.closed,h.over,h.wait,h.known,j,rfl,h.nets,(fun t m=>by cases m),h.addr⟩,rfl,rfl⟩
 ·cases m:s.tx with
  | none=>
   rw [v] at d;unfold fO at d;rw [m] at d;exact absurd rfl d
  | some t=>
   have o:x.tos=t.tos:=by have:=h.tos;unfold IL at this;rw [m] at this;exact this
   have A:t.body=none:=by
    have:=h.inside;rw [j] at this;unfold JG at this;rw [m] at this
    cases Y:t.body with
    | none=>rfl
    | some b=>rw [show (some t:Option mK).bind (·.body)=t.body from rfl,Y] at this;cases this
   obtain ⟨_,p,B⟩:=E v;have V:bu l gZ=true:=by rw [Q,v];rfl
   have e:bz c s k=({s with tx:=some {t with tos:=cY t.tos c.most (s.nets || s.known || dM c k.name) k.name}},[b9 t.tos c.most (s.nets || s.known || dM c k.name) k.name]):=by unfold bz;rw [if_neg d];simp only [v,m]
   rw [e];have P:dM c k.name=xJ k.name:=by unfold dM;rw [Z,B]
   have J:∀u,JG {s with tx:=some {t with tos:=u}}=false:=fun u=>by unfold JG;show (t.body).isSome=false;rw [A];rfl
   by_cases i:t.tos.contains k.name=true
   ·have w:cY t.tos c.most (s.nets || s.known || dM c k.name) k.name=t.tos:=by unfold cY;rw [if_pos i]
    have z:b9 t.tos c.most (s.nets || s.known || dM c k.name) k.name=jD:=by unfold b9;rw [if_pos i];rfl
    rw [w,z];obtain ⟨a,b,f⟩:=iP (l:=l) j (out:=([jD]:List (List UInt8)).flatten) (by decide);have N:jF x.tos (fV l)=x.tos:=by unfold jF;rw [p,o,if_pos i]
    rw [a,b,f,V,N];exact ⟨fj.of ⟨h.closed,h.over,h.wait,h.known,by rw [J];exact j,o,h.nets,h.may,h.addr⟩,rfl,rfl⟩
   ·by_cases n:(t.tos.length:Int)=c.most
    ·have w:cY t.tos c.most (s.nets || s.known || dM c k.name) k.name=t.tos:=by unfold cY;rw [if_neg i,if_pos n]
     have z:b9 t.tos c.most (s.nets || s.known || dM c k.name) k.name=[52,53,50,32,109,97,110,121,13,10]:=by unfold b9;rw [if_neg i,if_pos n]
     have O:({s with tx:=some {t with tos:=t.tos}}:bG)=s:=by rw [show ({t with tos:=t.tos}:mK)=t from rfl,←m]
     rw [w,z,O];exact r ([[52,53,50,32,109,97,110,121,13,10]]:List (List UInt8)).flatten (by decide) (by decide) (by decide) (by omega)
    ·cases D:(s.nets || s.known || dM c k.name) with
     | true=>
      have w:cY t.tos c.most true k.name=t.tos++[k.name]:=by unfold cY;rw [if_neg i,if_neg n,if_pos rfl]
      have z:b9 t.tos c.most true k.name=jD:=by unfold b9;rw [if_neg i,if_neg n,if_pos rfl];rfl
      rw [w,z];obtain ⟨a,b,f⟩:=iP (l:=l) j (out:=([jD]:List (List UInt8)).flatten) (by decide);have N:jF x.tos (fV l)=t.tos++[k.name]:=by unfold jF;rw [p,o,if_neg i]
      rw [a,b,f,V,N];refine ⟨fj.of ⟨h.closed,h.over,h.wait,h.known,by rw [J];exact j,rfl,h.nets,fun y I=>?_,h.addr⟩,rfl,rfl⟩
      rcases List.mem_append.1 I with I | I
      ·exact h.may y (by rw [o];exact I)
      ·rw [List.mem_singleton.1 I];show uK x k.name=true;unfold uK;rw [P] at D;rw [h.known]
       cases U:s.nets with
       | true=>rw [decide_eq_true (h.nets U)];simp
       | false=>rw [U] at D;revert D;cases s.known <;> cases xJ k.name <;> simp
     | false=>
      have w:cY t.tos c.most false k.name=t.tos:=by unfold cY;rw [if_neg i,if_neg n,if_neg (by decide)]
      have z:b9 t.tos c.most false k.name=[53,53,48,32,110,111,13,10]:=by unfold b9;rw [if_neg i,if_neg n,if_neg (by decide)]
      have O:({s with tx:=some {t with tos:=t.tos}}:bG)=s:=by rw [show ({t with tos:=t.tos}:mK)=t from rfl,←m]
      rw [w,z,O];exact r ([[53,53,48,32,110,111,13,10]]:List (List UInt8)).flatten (by decide) (by decide) (by decide) (by omega)
def po (c:bX) (x:ca) (s:bG) (S:aa) (recs l:List UInt8):Prop:=
 (fL x l (aO c s S recs l false).2.2.2.flatten=[]∧(aO c s S recs l false).2.1=S∧(aO c s S recs l false).2.2.1=recs)∨
 ∃t b,s.tx=some t∧t.body=some b∧l=[46]∧x.tos=t.tos∧fL x l (aO c s S recs l false).2.2.2.flatten=[⟨S.items.length+1,0,[],t.tos,[]⟩]∧(aO c s S recs l false).2.1=S.plus (eJ S t.frm t.tos b.text)∧(aO c s S recs l false).2.2.1=recs++bJ (cA (eJ S t.frm t.tos b.text))∧kB (aO c s S recs l false).2.2.2.flatten=S.items.length+1
theorem qR (D:tr l) (C:c.doms=na) (h:km x s):fj (gH x l (aO c s S recs l false).2.2.2.flatten) (if (aO c s S recs l false).1.over then none else some (aO c s S recs l false).1)∧dp x l (aO c s S recs l false).2.2.2.flatten=false∧po c x s S recs l:=by
 by_cases f:x.inside=true
 ·obtain ⟨t,j,b,m⟩:∃t,s.tx=some t∧∃b,t.body=some b:=by
   have:=h.inside;rw [f] at this;unfold JG at this
   cases j:s.tx with
   | none=>rw [j] at this;cases this
   | some t=>
    rw [j,show (some t:Option mK).bind (·.body)=t.body from rfl] at this
    cases m:t.body with
    | none=>rw [m] at this;cases this
    | some b=>exact ⟨t,rfl,b,m⟩
  have i:x.tos=t.tos:=by have:=h.tos;unfold IL at this;rw [j] at this;exact this
  have p:aO c s S recs l false=dn c s S recs t b l false:=by unfold aO;rw [j];simp only;rw [m]
  unfold po;rw [p]
  by_cases d:l=[46]
  ·have q:dn c s S recs t b l false=kz c s S recs t b:=by unfold dn;rw [if_pos d]
   rw [q];have I:∀g,gH x l g={x with inside:=false,tos:=[]}:=fun g=>by unfold gH;simp [f,d]
   have k:fj {x with inside:=false,tos:=[]} (if ({s with tx:=none}:bG).over then none else some {s with tx:=none}):=by
    exact fj.of ⟨h.closed,h.over,h.wait,h.known,rfl,rfl,h.nets,(fun t j=>by cases j),h.addr⟩
   have r:∀g,dd g≠mf→fL x l g=[]∧dp x l g=false:=fun g E=>by unfold fL dp;simp [f,d,E]
   rw [I];unfold kz
   by_cases u:b.bad=true
   ·rw [if_pos u];obtain ⟨n,o⟩:=r ([zm]:List (List UInt8)).flatten (by decide);exact ⟨k,o,.inl ⟨n,rfl,rfl⟩⟩
   ·rw [if_neg u]
    by_cases v:c.size < (b.text.length:Int)
    ·rw [if_pos v];obtain ⟨n,o⟩:=r ([uw]:List (List UInt8)).flatten (by decide);exact ⟨k,o,.inl ⟨n,rfl,rfl⟩⟩
    ·rw [if_neg v]
     by_cases w:jt c recs (eJ S t.frm t.tos b.text)=true
     ·rw [if_pos w];have B:([[50,53,48,32,107,101,112,116,32]++Lib.itoa ((S.items.length:Int)+1)++[13,10]]:List (List UInt8)).flatten=[50,53,48,32,107,101,112,116,32]++Lib.itoa ((S.items.length+1:Nat):Int)++[13,10]:=by simp
      have y:dd ([50,53,48,32,107,101,112,116,32]++Lib.itoa ((S.items.length+1:Nat):Int)++[13,10])=mf:=by rw [List.append_assoc];exact pE _ _ _ _ _
      have A:=H6 (S.items.length+1);simp only [B];refine ⟨k,?_,.inr ⟨t,b,j,m,d,i,?_,rfl,rfl,A⟩⟩
      ·unfold dp;simp only [f,d,ne_eq,not_true_eq_false,and_false,if_false,if_true,y,decide_true,Bool.true_and];rw [Bool.not_eq_false',List.all_eq_true];exact h.may
      ·unfold fL;rw [if_pos ⟨f,d,y⟩,A,i]
     ·rw [if_neg w];obtain ⟨n,o⟩:=r ([CR]:List (List UInt8)).flatten (by decide);exact ⟨k,o,.inl ⟨n,rfl,rfl⟩⟩
  ·have q:dn c s S recs t b l false=({s with tx:=some {t with body:=some (b.add l false c.size)}},S,recs,[]):=by unfold dn;rw [if_neg d]
   rw [q];have F:gH x l []=x:=by unfold gH;simp [f,d]
   have G:fL x l []=[]:=by unfold fL;simp [d]
   have H:dp x l []=false:=by unfold dp;simp [f,d]
   simp only [List.flatten_nil,F,G,H];exact ⟨fj.of (s:={s with tx:=some {t with body:=some (b.add l false c.size)}}) ⟨h.closed,h.over,h.wait,h.known,by rw [f];rfl,i,h.nets,h.may,h.addr⟩,trivial,.inl ⟨trivial,trivial,trivial⟩⟩
 ·have z:x.inside=false:=by simpa using f
  have p:aO c s S recs l false=((bz c s (bn l false)).1,S,recs,(bz c s (bn l false)).2):=by
   unfold aO
   cases j:s.tx with
   | none=>rfl
   | some t=>
    simp only;have:=h.inside;rw [z] at this;unfold JG at this;rw [j,show (some t:Option mK).bind (·.body)=t.body from rfl] at this
    cases m:t.body with
    | none=>rfl
    | some b=>rw [m] at this;cases this
  obtain ⟨a,b,e⟩:=Gv D C h z;unfold po;rw [p];exact ⟨a,e,.inl ⟨b,rfl,rfl⟩⟩
end
end Go.Proofs.YtofpegbpgkkgkaaGreatDoor
