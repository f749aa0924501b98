import Derived.Test.YtofpegbpgkkgkaaGreatDoorS23
namespace Go.Proofs.YtofpegbpgkkgkaaGreatDoor
set_option maxHeartbeats 8000000
set_option maxRecDepth 1000000
open Go.RowKit
def pF (w:World) (g:Nat) (l:List UInt8):Prop:=∀j,j < l.length→w.cell? ⟨g,j,none⟩=some (.int .u8 ((l.getD j 0).toNat:Int))
theorem pF.below {w b:World} {g:Nat} {l:List UInt8} (h:pF w g l) (c:Below w.heap.size w b):pF b g l:=fun j a=>(c.cell (aA (h j a))).trans (h j a)
theorem pF.string {w:World} {g cap:Nat} {l:List UInt8} (h:pF w g l):(convert 114 9 (.slice (some ⟨g,0,none⟩) l.length cap)).run Tryz.prog w= .ok (.string (bs l)) w:=nV w g cap l.length l rfl h
theorem pF.at {w:World} {g:Nat} {l:List UInt8} (h:pF w g l):BytesAt (bs l) g 0 w:=fun j b=>by
 have a:j < l.length:=by have:=aI l;omega
 rw [Nat.zero_add,h j a,zh l j a,List.getD_eq_getElem?_getD,List.getElem?_eq_getElem a];rfl
theorem nT (l:List UInt8) (g a:Nat) (w:World) (h:pF w g l) (d:l.length≤a) (m:l.length≤1048576) (i:Lib.Utf8Tabs 2 3 w):
  Calls Tryz.prog 232 #[.slice (some ⟨g,0,none⟩) l.length a,.func (.func 138) #[] #[],.bool true] w fun e k=>e= .returned (.int .i64 (Lib.idxFunc rX true (bs l)))∧Below w.heap.size w k:=by
 have f:=aI l;have c:=Any7.bytes_indexFunc (P:=Tryz.prog) Tryz.lays755 138 #[] (fun b w=>enters_of Tryz.func138 rfl rfl b w) rX true (bs l) g 0 a w (by omega) (by omega) h.at i (fun W x j _=>DJ x W j);rw [f] at c;exact c
theorem qS (l:List UInt8) (g a:Nat) (w:World) (h:pF w g l) (b:l.length≤a) (o:l.length≤1048576) (f:Lib.Utf8Tabs 2 3 w):
  Calls Tryz.prog 137 #[.slice (some ⟨g,0,none⟩) l.length a,.func (.func 138) #[] #[]] w fun e i=>e= .returned (.bool (l.any rV))∧Below w.heap.size w i:=by
 have j:=Lib.hid (nT l g a w h b o f)
 have c:Calls Tryz.prog 193 #[.slice (some ⟨g,0,none⟩) l.length a,.func (.func 138) #[] #[]] w fun e i=>e= .returned (.int .i64 (Lib.idxFunc rX true (bs l)))∧Below w.heap.size w i:=by
  clear h f;go_enter Tryz.func193,Tryz.ntmps193;go_wp2_with fail
  refine j.out.mono ?_;rintro e p ⟨rfl,d⟩;go_wp2_with fail
  go_ret;exact ⟨rfl,d⟩
 have k:Hid (l.any rV=decide (0≤Lib.idxFunc rX true (bs l))):=Lib.hid (by
  have:=CP l l.length 0 (by omega) (by omega);rw [List.drop_zero] at this;rw [Bool.eq_iff_iff,decide_eq_true_eq,←this];unfold Lib.idxFunc
  rw [aI])
 obtain ⟨r,m⟩:∃r,Lib.idxFunc rX true (bs l)=r:=⟨_,rfl⟩;rw [m] at c k;have n:=Lib.hid c;clear h f c j m;go_enter Tryz.func137,Tryz.ntmps137;go_wp2_with fail
 refine n.out.mono ?_;rintro e p ⟨rfl,d⟩;go_wp2_with fail
 go_ret;exact ⟨by rw [k.out];rfl,d⟩
theorem pD {c:World} {k:Nat} {a b x y:Value} {t:TypeId} (h:c.heap[k]? =some (.cells #[a,b] t (0,0))):((c.setCell ⟨k,0,none⟩ x).setCell ⟨k,1,none⟩ y).cell? ⟨k,0,none⟩=some x∧((c.setCell ⟨k,0,none⟩ x).setCell ⟨k,1,none⟩ y).cell? ⟨k,1,none⟩=some y∧aH k c ((c.setCell ⟨k,0,none⟩ x).setCell ⟨k,1,none⟩ y):=by
 have e:=heap_setCell_same c k 0 _ _ x h;have d:=heap_setCell_same _ k 1 _ _ y e;exact ⟨by rw [Lib.cell_of_heap d];rfl,by rw [Lib.cell_of_heap d];rfl,((aH.refl _ _).setCell _).setCell _⟩
def iX (l:List UInt8):List UInt8×Bool:=if 100 < l.length || l.any rV then ([],true) else (l,false)
theorem zy (l:List UInt8) (g c:Nat) (w:World) (h:pF w g l) (t:l.length≤c) (L:l.length≤1048576) (z:Lib.Utf8Tabs 2 3 w):
  Calls Tryz.prog 99 #[.slice (some ⟨g,0,none⟩) l.length c] w fun e M=>e= .returned (.agg #[.string (bs (iX l).1),.bool (iX l).2])∧Below w.heap.size w M:=by
 obtain ⟨s,i⟩:∃s:World,w.alloc (.cells #[.string ⟨#[]⟩,.bool false] 138)=s:=⟨_,rfl⟩;have n:Below w.heap.size w s:=by rw [←i];exact (Below.refl _ _).alloc (Nat.le_refl _) _
 have F:s.heap[w.heap.size]? =some (.cells #[.string ⟨#[]⟩,.bool false] 138 (0,0)):=by rw [←i];exact heap_alloc_new w _
 have o:=Lib.hid (qS l g c s (h.below n) t L (Utf8Tabs_below z n));have G:=Lib.hid (h.below n);have f:=Lib.hid n;have r:=Lib.hid F;have q:=Lib.hid i;clear i n F
 by_cases d:100 < l.length
 ·have p:Hid (iX l=([],true)):=Lib.hid (by unfold iX;rw [decide_eq_true d];rfl);have K:(100:Int) < (l.length:Int):=by omega
  clear h z o;go_enter Tryz.func99,Tryz.ntmps99;go_wp2_with fail
  have X:=heap_alloc_new w (.cells #[.string ⟨#[]⟩,.bool true] 138);have A:(w.alloc (.cells #[.string ⟨#[]⟩,.bool true] 138)).cell? ⟨w.heap.size,0,none⟩=some (.string ⟨#[]⟩):=by rw [Lib.cell_of_heap X];rfl
  have B:(w.alloc (.cells #[.string ⟨#[]⟩,.bool true] 138)).cell? ⟨w.heap.size,1,none⟩=some (.bool true):=by rw [Lib.cell_of_heap X];rfl
  refine bodyPost_ret (v:= .agg #[.string ⟨#[]⟩,.bool true]) (by simp [results,Tryz.results99,go_sem,A,B]) rfl ?_;exact ⟨by rw [p.out];rfl,(Below.refl _ _).alloc (Nat.le_refl _) _⟩
 ·have K:¬(100:Int) < (l.length:Int):=by omega
  cases m:l.any rV with
  | true=>
   have p:Hid (iX l=([],true)):=Lib.hid (by unfold iX;rw [m,Bool.or_true];rfl);rw [m] at o;clear h z m;go_enter Tryz.func99,Tryz.ntmps99;go_wp2_with fail
   rw [q.out];refine o.out.mono ?_;rintro e u ⟨rfl,a⟩;have b:=ae a r.out;have A:u.cell? ⟨w.heap.size,0,none⟩=some (.string ⟨#[]⟩):=by rw [Lib.cell_of_heap b];rfl
   have B:u.cell? ⟨w.heap.size,1,none⟩=some (.bool false):=by rw [Lib.cell_of_heap b];rfl
   have H:=Lib.frozen_of_heap b 0;have I:=Lib.frozen_of_heap b 1;have k:=Lib.hid b;have j:=Lib.hid (f.out.trans (a.mono f.out.size));clear b a;go_wp2_with fail
   obtain ⟨C,D,E⟩:=pD (x:= .string ⟨#[]⟩) (y:= .bool true) k.out;refine bodyPost_ret (v:= .agg #[.string ⟨#[]⟩,.bool true]) (by simp [results,Tryz.results99,go_sem,C,D]) rfl ?_;exact ⟨by rw [p.out];rfl,j.out.trans (E.below (Nat.le_refl _))⟩
  | false=>
   have p:Hid (iX l=(l,false)):=Lib.hid (by unfold iX;rw [m,decide_eq_false d];rfl);rw [m] at o;clear h z m;go_enter Tryz.func99,Tryz.ntmps99;go_wp2_with fail
   rw [q.out];refine o.out.mono ?_;rintro e u ⟨rfl,a⟩;have J:=(G.out.below a).string (cap:=c);have b:=ae a r.out;have A:u.cell? ⟨w.heap.size,0,none⟩=some (.string ⟨#[]⟩):=by rw [Lib.cell_of_heap b];rfl
   have B:u.cell? ⟨w.heap.size,1,none⟩=some (.bool false):=by rw [Lib.cell_of_heap b];rfl
   have H:=Lib.frozen_of_heap b 0;have I:=Lib.frozen_of_heap b 1;have k:=Lib.hid b;have j:=Lib.hid (f.out.trans (a.mono f.out.size));clear b a;go_wp2_with fail
   obtain ⟨C,D,E⟩:=pD (x:= .string (bs l)) (y:= .bool false) k.out;refine bodyPost_ret (v:= .agg #[.string (bs l),.bool false]) (by simp [results,Tryz.results99,go_sem,C,D]) rfl ?_;exact ⟨by rw [p.out],j.out.trans (E.below (Nat.le_refl _))⟩
def oP (l:List UInt8):Bool:=Lib.hasSuffix l [13,10]
def jG (wait:List UInt8) (b:UInt8):List UInt8×Option (List UInt8×Bool):=
 if oP (wait++[b]) then ([],some (iX ((wait++[b]).take ((wait++[b]).length - 2)))) else (kA (wait++[b]),none)
def rJ (o:Option (List UInt8×Bool)):Value:=
 match o with
 | none=> .tuple #[.agg #[.string ⟨#[]⟩,.bool false],.bool false]
 | some x=> .tuple #[.agg #[.string (bs x.1),.bool x.2],.bool true]
def pR (l:List UInt8):List Int:=l.map fun b=>(b.toNat:Int)
theorem wU (l:List UInt8):Lib.bytesOf (pR l)=l:=by
 unfold Lib.bytesOf pR;rw [List.map_map];conv=>rhs;rw [←List.map_id l]
 congr 1
 funext b
 simp
theorem zq (l:List UInt8) (i:Nat) (h:i < l.length):(pR l).getD i 0=((l.getD i 0).toNat:Int):=by
 rw [List.getD_eq_getElem?_getD,List.getD_eq_getElem?_getD,pR,List.getElem?_map,List.getElem?_eq_getElem h];rfl
theorem kP.by {w:World} {l:List UInt8} {g n cap:Nat} (h:kP w (.slice (some ⟨g,0,none⟩) n cap) l):pF w g l:=fun j a=>by
 obtain ⟨f,b,cur,e,d,_,_,_,c⟩:=h.parts (fun e=>by rw [e] at a;simp at a);injection e with e _ _;injection e with e;injection e with e _;subst e;rw [Lib.cell_of_heap d];exact xk c j a
theorem ur (l:List UInt8) (g a c:Nat) (w:World) (h:pF w g l) (b:l.length≤a) (k:l.length≤1048576) (j:w.heap[c]? =some (.cells #[.int .u8 13,.int .u8 10] 5 (2,3))):
  Calls Tryz.prog 97 #[.slice (some ⟨g,0,none⟩) l.length a,.slice (some ⟨c,0,none⟩) 2 2] w fun e f=>e= .returned (.tuple #[if oP l then .slice (some ⟨g,0,none⟩) (l.length - 2) a else .slice (some ⟨g,0,none⟩) l.length a,.bool (oP l)])∧f=w:=by
 refine (Tryz.bytes_CutSuffix g 0 l.length a c 0 2 2 (pR l) [13,10] w (by simp [pR]) rfl b (by omega) (fun i d=>?_) (fun i d=>?_)).mono ?_
 ·rw [Nat.zero_add,zq l i d];exact h i d
 ·rw [Nat.zero_add,Lib.cell_of_heap j];have:i=0∨i=1:=by omega
  rcases this with rfl | rfl <;> rfl
 ·rintro e f ⟨rfl,rfl⟩;refine ⟨?_,rfl⟩;unfold Lib.bytesTrimSuffix Lib.sliceTo;rw [wU,show Lib.bytesOf [13,10]=[13,10] from rfl];rfl
theorem kB.grow {w b:World} {sb:Nat} {C:Array Value} {v a:Value} {l i:List UInt8} (h:kB w sb C v l) (m:aF (fun k=>v.ownBlock=some k) w b) (f:kP b a i):kB (b.setCell ⟨sb,2,none⟩ a) sb (C.setIfInBounds 2 a) a i:=by
 have d:=m.some_ h.blk h.far;refine ⟨heap_setCell_same b sb 2 _ _ a d,by rw [Array.size_setIfInBounds];exact h.size,by rw [Array.getElem?_setIfInBounds_self_of_lt (by have:=h.size;omega)],br f (aF.same ((aH.refl sb b).setCell _)) (fun g n e=>?_)⟩
 obtain ⟨j,c⟩:=cX f n;rw [e,d] at c;simp at c
theorem nL.fin {sb n:Nat} {C r:Array Value} {v i j:Value} {x:List UInt8} {w m h l y:World} {D:Array Value} (d:aF (fun k=>k=sb∨v.ownBlock=some k) w m) (c:Below m.heap.size m h) (s:∀k,i.ownBlock=some k→v.ownBlock=some k∨w.heap.size≤k) (b:r=C.setIfInBounds 2 i) (a:kB l sb (r.setIfInBounds 2 j) j x) (p:aF (fun k=>k=sb∨i.ownBlock=some k) h l) (q:∀k,j.ownBlock=some k→i.ownBlock=some k∨h.heap.size≤k) (A:w.heap.size≤n) (t:l.heap[n]? =some (.cells D 138 (0,0))) (o:aH n l y):nL sb C v x w y:=by
 have E:w.heap.size≤h.heap.size:=Nat.le_trans d.size c.size;refine ⟨j,⟨?_,?_,?_,?_⟩,?_,fun k f=>(q k f).elim (s k) (fun e=> .inr (by omega))⟩
 ·have:=(o.2 sb (fun e=>by have:=a.blk;rw [e,t] at this;simp at this)).trans a.blk;rw [b,Array.setIfInBounds_setIfInBounds] at this;exact this
 ·have:=a.size;rw [b] at this;simpa using this
 ·have:=a.at2;rw [b,Array.setIfInBounds_setIfInBounds] at this;exact this
 ·exact br a.row (aF.same o) (fun g B e=>by
   obtain ⟨z,u⟩:=cX a.row B;rw [e,t] at u
   simp at u)
 ·exact ((d.trans (aF.below c:aF (fun _=>False) _ _) (fun _ _ e=>e.elim)).trans p (fun k f e=>e.elim .inl (fun e=>(s k e).elim .inr (fun e=>absurd f (by omega))))).trans (aF.same o) (fun k f e=>absurd f (by omega))
theorem Au {A:Nat→Prop} {w b:World} {g h:Nat} (a:Lib.Utf8Tabs g h w) (c:aF A w b) (n:¬A g) (p:¬A h):Lib.Utf8Tabs g h b:=by
 have j:g < w.heap.size:=aA (a.1 0 (by decide));have l:h < w.heap.size:=aA (a.2 0 (by decide)).1;have m:∀o,b.cell? ⟨g,o,none⟩=w.cell? ⟨g,o,none⟩:=fun o=>World.cell?_of_block (c.block _ j n);have e:∀o,b.cell? ⟨h,o,none⟩=w.cell? ⟨h,o,none⟩:=fun o=>World.cell?_of_block (c.block _ l p);exact ⟨fun k f=>(m k).trans (a.1 k f),fun i d=>⟨(e _).trans (a.2 i d).1,(e _).trans (a.2 i d).2⟩⟩
theorem Gr (sb:Nat) (C:Array Value) (v:Value) (l:List UInt8) (b:UInt8) (w:World) (h:kB w sb C v l) (hl:l.length≤102) (hu:Lib.Utf8Tabs 2 3 w) (d7:¬(2=sb∨v.ownBlock=some 2)) (u:¬(3=sb∨v.ownBlock=some 3)):
  Calls Tryz.prog 66 #[.pointer (some ⟨sb,2,none⟩),.int .u8 (b.toNat:Int)] w fun e w'=>e= .returned (rJ (jG l b).2)∧nL sb C v (jG l b).1 w w':=by
 obtain ⟨q,I⟩:∃q:World,w.alloc (.cells #[.string ⟨#[]⟩,.bool false] 138)=q:=⟨_,rfl⟩;have B0:Below w.heap.size w q:=by rw [←I];exact (Below.refl _ _).alloc (Nat.le_refl _) _
 have X0:q.heap[w.heap.size]? =some (.cells #[.string ⟨#[]⟩,.bool false] 138 (0,0)):=by rw [←I];exact heap_alloc_new w _
 have d8:q.heap.size=w.heap.size+1:=by rw [←I];simp
 have p:=h.below B0;have e0:=Utf8Tabs_below hu B0;have c6:q.cell? ⟨sb,2,none⟩=some v:=by rw [Lib.cell_of_heap p.blk];exact p.at2
 have c2:∀o:Obj,(q.alloc o).cell? ⟨sb,2,none⟩=some v:=fun o=>by rw [Lib.cell_of_heap (ae ((Below.refl _ q).alloc (Nat.le_refl _) o) p.blk)];exact p.at2
 obtain ⟨i,hi,e1,e2,e4⟩:=info_parts kI;obtain ⟨g,a,X,T,b1,V,O1⟩:=oC (P:=Tryz.prog) Tryz.underlying114 hi e1 e2 e4 rfl q (q.alloc (.cells #[.int .u8 (b.toNat:Int)] 5)) v (.int .u8 (b.toNat:Int)) l.length (Lib.byteCells l) p.row rfl ((Below.refl _ _).alloc (Nat.le_refl _) _) (heap_alloc_new q _) (by unfold maxLen;omega) (by omega)
 have R1:kP X (.slice (some ⟨g,0,none⟩) (l.length+1) a) (l++[b]):=by
  have e:Lib.byteCells (l++[b])=Lib.byteCells l++[.int .u8 (b.toNat:Int)]:=by simp [Lib.byteCells]
  unfold kP;rw [e,List.length_append];exact b1
 have c7:X.cell? ⟨sb,2,none⟩=some v:=by rw [Lib.cell_of_heap (V.some_ p.blk p.far)];exact p.at2
 have d0:=Lib.frozen_of_heap (V.some_ p.blk p.far) 2;have N:=p.grow V R1;have S2:aH sb X (X.setCell ⟨sb,2,none⟩ (.slice (some ⟨g,0,none⟩) (l.length+1) a)):=(aH.refl _ _).setCell _;obtain ⟨m,a8⟩:∃m:World,X.setCell ⟨sb,2,none⟩ (.slice (some ⟨g,0,none⟩) (l.length+1) a)=m:=⟨_,rfl⟩;rw [a8] at N S2
 have X2:m.heap[w.heap.size]? =some (.cells #[.string ⟨#[]⟩,.bool false] 138 (0,0)):=(S2.2 _ (by have:=ah h.blk;omega)).trans (V.some_ X0 (fun e=>by
  obtain ⟨Q,hq⟩:=cX p.row e;rw [X0] at hq
  simp at hq))
 have K2:aF (fun k=>k=sb∨v.ownBlock=some k) w m:=(((aF.below B0:aF (fun k=>k=sb∨v.ownBlock=some k) w q)).trans V (fun _ _ e=> .inr e)).trans (aF.same S2) (fun _ _ e=> .inl e);have b3:Lib.Utf8Tabs 2 3 m:=Au hu K2 d7 u;have S:=Lib.run_convert_bytes_const (P:=Tryz.prog) m 114 5 #[.int .u8 13,.int .u8 10] 2 2 Tryz.underlying114 Tryz.underlying5;rw [show (#[Value.int .u8 13,Value.int .u8 10]:Array Value).size=2 from rfl] at S;have U:Below m.heap.size m (m.alloc (.cells #[.int .u8 13,.int .u8 10] 5 (2,3))):=(Below.refl _ _).alloc (Nat.le_refl _) _;have E3:=heap_alloc_new m (.cells #[.int .u8 13,.int .u8 10] 5 (2,3));obtain ⟨W3,a9⟩:∃W3:World,m.alloc (.cells #[.int .u8 13,.int .u8 10] 5 (2,3))=W3:=⟨_,rfl⟩;rw [a9] at S U E3;have A3:=N.below U;have X3:=ae U X2;have b4:=Utf8Tabs_below b3 U
 have s:(l++[b]).length≤a:=by
  obtain ⟨g',a7,Q,e,_,p1,_⟩:=R1.parts (by simp);injection e with _ _ e;omega
 have c8:m.cell? ⟨sb,2,none⟩=some (.slice (some ⟨g,0,none⟩) (l.length+1) a):=by rw [Lib.cell_of_heap N.blk];exact N.at2
 have a6:∀o:Obj,(m.alloc o).cell? ⟨sb,2,none⟩=some (.slice (some ⟨g,0,none⟩) (l.length+1) a):=fun o=>by rw [Lib.cell_of_heap (N.below ((Below.refl _ m).alloc (Nat.le_refl _) o)).blk];exact N.at2
 have G:=kP.by A3.row
 have H:=ur (l++[b]) g a m.heap.size W3 G s (by simp;omega) E3;have f:Hid (jG l b=if oP (l++[b]) then ([],some (iX ((l++[b]).take ((l++[b]).length - 2)))) else (kA (l++[b]),none)):=Lib.hid rfl;obtain ⟨c,r⟩:∃c,l++[b]=c:=⟨_,rfl⟩;have J:c.length=l.length+1:=by rw [←r];simp
 rw [r] at A3 s G H f;rw [J] at H s;rw [d8] at T;have c4:=Lib.hid T;have a2:=Lib.hid K2;have B:=Lib.hid A3;have a0:=Lib.hid U;have E:=Lib.hid X3;have c5:=Lib.hid b4;have b8:=Lib.hid G;have a1:=Lib.hid H
 have HO:Hid (∀k,(Value.slice (some ⟨g,0,none⟩) (l.length+1) a).ownBlock=some k→v.ownBlock=some k∨w.heap.size≤k):=Lib.hid (fun k e=>by
  injection e with e;have e:g=k:=e;subst e
  exact O1.imp id (fun e=>by omega))
 have HC:=Lib.hid h.size;obtain ⟨av,cv,ev⟩:=aE (aC h.row);subst ev;clear h hu p e0 X0 B0 T b1 V O1 R1 N S2 X2 K2 b3 U E3 A3 X3 b4 G H r;go_enter Tryz.func66,Tryz.ntmps66
 go_wp2_with (first
  | (at_builtin;refine bH rfl _ _ 114 rfl _ _ (.slice (some ⟨g,0,none⟩) (l.length+1) a) X rfl rfl c4.out ?_)
  | fail)
 refine a1.out.mono ?_;rintro e w4 ⟨rfl,rfl⟩;obtain ⟨t,et⟩:∃t,oP c=t:=⟨_,rfl⟩;rw [et] at f ⊢;clear a1 et S c6 c2 c7 d0 c8 a6 I a8 a9
 cases t with
 | false=>
  simp only [Bool.false_eq_true,if_false] at f ⊢;have a3:=Lib.hid (Ac sb _ _ c w4 B.out (by omega) (by omega));go_wp2_with fail
  refine a3.out.mono ?_;rintro e d ⟨rfl,v5,n,K5,O5⟩
  have z:=K5.some_ E.out (fun e=>by
   rcases e with e | e
   ·have:=B.out.blk;rw [←e,E.out] at this;simp at this
   ·obtain ⟨Q,hq⟩:=cX B.out.row e;rw [E.out] at hq
    simp at hq)
  have p0:d.cell? ⟨w.heap.size,0,none⟩=some (.string ⟨#[]⟩):=by rw [Lib.cell_of_heap z];rfl
  have p1:d.cell? ⟨w.heap.size,1,none⟩=some (.bool false):=by rw [Lib.cell_of_heap z];rfl
  have q0:=Lib.frozen_of_heap z 0;have q1:=Lib.frozen_of_heap z 1;have a4:=Lib.hid z;have b5:=Lib.hid n;have c0:=Lib.hid K5;have c3:=Lib.hid O5;clear z n K5 O5 a3;go_wp2_with fail
  obtain ⟨r0,r1,rS⟩:=pD (x:= .string ⟨#[]⟩) (y:= .bool false) a4.out;refine bodyPost_ret (v:= .tuple #[.agg #[.string ⟨#[]⟩,.bool false],.bool false]) (by simp [results,Tryz.results66,go_sem,r0,r1]) rfl ?_;rw [f.out];exact ⟨rfl,nL.fin a2.out a0.out HO.out rfl b5.out c0.out c3.out (Nat.le_refl _) a4.out rS⟩
 | true=>
  simp only [if_true] at f ⊢;obtain ⟨L,u⟩:∃L,l.length+1 - 2=L:=⟨_,rfl⟩;rw [u];have M:Hid (jG l b=([],some (iX (c.take L)))):=Lib.hid (by rw [f.out,J,u]);have b2:(c.take L).length=L:=by rw [List.length_take];omega
  have b0:pF w4 g (c.take L):=fun j hj=>by
   have d5:j < L:=by omega
   rw [b8.out j (by omega),List.getD_eq_getElem?_getD,List.getD_eq_getElem?_getD,List.getElem?_take_of_lt d5]
  have R:=zy (c.take L) g a w4 b0 (by omega) (by omega) c5.out;rw [b2] at R;have D:=Lib.hid R;obtain ⟨x,ex⟩:∃x,iX (c.take L)=x:=⟨_,rfl⟩;rw [ex] at D M;obtain ⟨tx,Z⟩:=x;simp only at D;clear R b0 ex b2 u f;go_wp2_with fail
  refine D.out.mono ?_;rintro e d ⟨rfl,K⟩;have n:=B.out.below K;have z:=ae K E.out;have d2:∀o:Obj,(d.alloc o).cell? ⟨sb,2,none⟩=some (.slice (some ⟨g,0,none⟩) (l.length+1) a):=fun o=>by rw [Lib.cell_of_heap (n.below ((Below.refl _ d).alloc (Nat.le_refl _) o)).blk];exact n.at2
  have c9:d.cell? ⟨sb,2,none⟩=some (.slice (some ⟨g,0,none⟩) (l.length+1) a):=by rw [Lib.cell_of_heap n.blk];exact n.at2
  have g2:=Lib.frozen_of_heap n.blk 2;have d1:∀o:Obj,(d.alloc o).frozen? ⟨sb,2,none⟩=false:=fun o=>Lib.frozen_of_heap (n.below ((Below.refl _ d).alloc (Nat.le_refl _) o)).blk 2;have B6:Below d.heap.size d (d.alloc (.cells #[.string (bs tx),.bool Z] 138)):=(Below.refl _ _).alloc (Nat.le_refl _) _;obtain ⟨O,d3⟩:∃O:World,d.alloc (.cells #[.string (bs tx),.bool Z] 138)=O:=⟨_,rfl⟩;have L6:=heap_alloc_new d (.cells #[.string (bs tx),.bool Z] 138);rw [d3] at B6 L6;have A:=n.below B6;have X6:=ae B6 z;have d6:O.cell? ⟨sb,2,none⟩=some (.slice (some ⟨g,0,none⟩) (l.length+1) a):=by rw [Lib.cell_of_heap A.blk];exact A.at2
  have g6:=Lib.frozen_of_heap A.blk 2;have W:aH sb O (O.setCell ⟨sb,2,none⟩ (.slice (some ⟨g,0,none⟩) 0 a)):=(aH.refl _ _).setCell _;have b7:=heap_setCell_same O sb 2 _ _ (.slice (some ⟨g,0,none⟩) 0 a) A.blk;obtain ⟨F,d4⟩:∃F:World,O.setCell ⟨sb,2,none⟩ (.slice (some ⟨g,0,none⟩) 0 a)=F:=⟨_,rfl⟩;rw [d4] at W b7;have d9:sb≠w.heap.size:=fun e=>by have:=n.blk;rw [e,z] at this;simp at this
  have Y:=(W.2 _ (Ne.symm d9)).trans X6;have L7:=(W.2 _ (by have:=ah n.blk;omega)).trans L6;have t0:F.cell? ⟨d.heap.size,0,none⟩=some (.string (bs tx)):=by rw [Lib.cell_of_heap L7];rfl
  have t1:F.cell? ⟨d.heap.size,1,none⟩=some (.bool Z):=by rw [Lib.cell_of_heap L7];rfl
  have R7:kP F (.slice (some ⟨g,0,none⟩) 0 a) []:=by
   obtain ⟨g',a7,Q,e,hg,p1,p2,p3,p4⟩:=A.row.parts (fun e=>by rw [e] at J;simp at J);injection e with e _ e3;injection e with e;injection e with e _;subst e e3;exact kP.mk (l:=[]) ((W.2 g (fun e=>A.far (by rw [←e];rfl))).trans hg) (Nat.zero_le _) p2 p3 rfl
  have p0:F.cell? ⟨w.heap.size,0,none⟩=some (.string ⟨#[]⟩):=by rw [Lib.cell_of_heap Y];rfl
  have p1:F.cell? ⟨w.heap.size,1,none⟩=some (.bool false):=by rw [Lib.cell_of_heap Y];rfl
  have q0:=Lib.frozen_of_heap Y 0;have q1:=Lib.frozen_of_heap Y 1;have A7:kB F sb ((C.setIfInBounds 2 (.slice (some ⟨g,0,none⟩) (l.length+1) a)).setIfInBounds 2 (.slice (some ⟨g,0,none⟩) 0 a)) (.slice (some ⟨g,0,none⟩) 0 a) []:=⟨b7,by rw [Array.size_setIfInBounds];exact A.size,by rw [Array.getElem?_setIfInBounds_self_of_lt (by have:=A.size;omega)],R7⟩
  have K7:aF (fun k=>k=sb∨(Value.slice (some ⟨g,0,none⟩) (l.length+1) a).ownBlock=some k) w4 F:=((aF.below K:aF (fun k=>k=sb∨(Value.slice (some ⟨g,0,none⟩) (l.length+1) a).ownBlock=some k) w4 d).trans (aF.below B6:aF (fun _=>False) _ _) (fun _ _ e=>e.elim)).trans (aF.same W) (fun _ _ e=> .inl e);have b6:=Lib.hid A7;have a5:=Lib.hid Y;have c1:=Lib.hid K7;clear n z K D W b7 X6 R7 B6 Y A A7 K7 d2 d1 c9 g2 L6 L7;go_wp2_with fail
  obtain ⟨r0,r1,rS⟩:=pD (x:= .string (bs tx)) (y:= .bool Z) a5.out;refine bodyPost_ret (v:= .tuple #[.agg #[.string (bs tx),.bool Z],.bool true]) (by simp [results,Tryz.results66,go_sem,r0,r1]) rfl ?_;rw [M.out];exact ⟨rfl,nL.fin a2.out a0.out HO.out rfl b6.out c1.out (fun k e=> .inl e) (Nat.le_refl _) a5.out rS⟩
end Go.Proofs.YtofpegbpgkkgkaaGreatDoor
