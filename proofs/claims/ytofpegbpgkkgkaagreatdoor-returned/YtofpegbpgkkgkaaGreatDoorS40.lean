import Derived.Test.YtofpegbpgkkgkaaGreatDoorRows
import Derived.Lib.LaidU8
import Derived.Test.YtofpegbpgkkgkaaGreatDoorS32
import Derived.Test.YtofpegbpgkkgkaaGreatDoorS38
import Derived.Test.YtofpegbpgkkgkaaGreatDoorS39
import Derived.Carry
import Derived.SevenTiedAt
import Derived.Stop.Joined
namespace Go.Proofs.YtofpegbpgkkgkaaGreatDoor
set_option maxHeartbeats 8000000
set_option maxRecDepth 1000000
open Go.ChangeShapes Go.WideShapes Go.RowKit Go.Deep
section
variable {H:Type} {enc:TypeId×Value→H} {w:World} {base:Nat} {spare:Nat→Bool} {held:Bool}
theorem qE {n:Int} (h:(Lit.int .i64 n).wf=true):kN n:=by
 simp only [Lit.wf,Bool.and_eq_true,decide_eq_true_eq] at h;exact h
end
theorem Hb:(Rows.laid_internal_strconv_uint64pow10:DataW Unit)=Lib.tabData .u64 Lib.pow10Tab:=by kernel_rfl
theorem CT:Rows.laid_unicode_utf8_first=Lib.firstData:=by kernel_rfl
theorem AW:(Rows.laid_unicode_utf8_acceptRanges:DataW Unit)=Lib.acceptData:=by kernel_rfl
theorem tX:Tryz.prog.cellsOf 5=1:=by kernel_rfl
theorem tV:Tryz.prog.cellsOf 313=2:=by kernel_rfl
theorem CJ:Tryz.prog.globalNamed "unicode/utf8.first"=some 2:=by kernel_rfl
theorem GM:Tryz.prog.globalNamed "unicode/utf8.acceptRanges"=some 3:=by kernel_rfl
theorem GN:Tryz.prog.globalNamed "internal/strconv.uint64pow10"=some 6:=by kernel_rfl
theorem DX:(Tryz.prog.globals[2]?).map (·.type)=some 311:=by kernel_rfl
theorem IQ:(Tryz.prog.globals[3]?).map (·.type)=some 314:=by kernel_rfl
theorem IT:(Tryz.prog.globals[6]?).map (·.type)=some 331:=by kernel_rfl
theorem EW {W:World} {b:List (String×DataW Unit)} (h:laidMet Tryz.prog b W) (F:("internal/strconv.uint64pow10",Rows.laid_internal_strconv_uint64pow10)∈b) (G:("unicode/utf8.acceptRanges",Rows.laid_unicode_utf8_acceptRanges)∈b) (I:("unicode/utf8.first",Rows.laid_unicode_utf8_first)∈b) (u:W.ShapedOpen Tryz.prog):iR W:=by
 have B:Lib.VarReads Tryz.prog W "internal/strconv.uint64pow10" Rows.laid_internal_strconv_uint64pow10:=Lib.laidMet.reads h F;have C:Lib.VarReads Tryz.prog W "unicode/utf8.acceptRanges" Rows.laid_unicode_utf8_acceptRanges:=Lib.laidMet.reads h G;have D:Lib.VarReads Tryz.prog W "unicode/utf8.first" Rows.laid_unicode_utf8_first:=Lib.laidMet.reads h I
 rw [Hb] at B;rw [AW] at C;rw [CT] at D;refine ⟨Bh u,?_,?_,?_⟩
 ·obtain ⟨g,t,v,m,p,n,e,a,o⟩:=B;obtain rfl:=Option.some.inj (GN.symm.trans n);obtain rfl:=Option.some.inj (IT.symm.trans e);unfold tw Lib.TabIs;rw [a,←Lib.cells_of_tab Tryz.underlying331 Tryz.underlying248 (by kernel_rfl) (by kernel_rfl) o]
 ·intro c E;obtain ⟨g,t,v,m,p,n,e,a,o⟩:=D;obtain rfl:=Option.some.inj (CJ.symm.trans n);obtain rfl:=Option.some.inj (DX.symm.trans e);have k:=Lib.cells_of_tab Tryz.underlying311 Tryz.underlying5 tX (by kernel_rfl) o;have:=World.var?_cell n a c;rw [this,←Array.getElem?_toList,k];simp [Lib.firstTab,E]
 ·intro i A;obtain ⟨g,t,v,m,p,n,e,a,o⟩:=C;obtain rfl:=Option.some.inj (GM.symm.trans n);obtain rfl:=Option.some.inj (IQ.symm.trans e);obtain ⟨s,d,q,r,z⟩:=Lib.array_elem Tryz.underlying314 o i A;simp only [List.getElem?_map,List.getElem?_range A,Option.map_some,Option.some.injEq] at r;subst r;rw [tV] at z
  have k:=Lib.ints_of_struct Tryz.underlying313 (fun j f l=>by
   match j,l with
   | 0,l=>simp at l;subst l;exact ⟨Tryz.underlying5,rfl,tX⟩
   | 1,l=>simp at l;subst l;exact ⟨Tryz.underlying5,rfl,tX⟩
   | j+2,l=>simp at l) (by rw [tV];rfl) z
  have x:=congrArg (·[0]?) k;have y:=congrArg (·[1]?) k;simp only [List.getElem?_take,List.getElem?_drop] at x y
  constructor
  ·rw [World.var?_cell n a (2 * i),←Array.getElem?_toList];simpa [Nat.mul_comm] using x
  ·rw [World.var?_cell n a (2 * i+1),←Array.getElem?_toList];simpa [Nat.mul_comm] using y
section
variable {H:Type} {enc:TypeId×Value→H} {w:World} {base:Nat} {spare:Nat→Bool} {held:Bool}
theorem ML:Tryz.prog.bytesOf 3=8:=by kernel_rfl
theorem MN {d:Nat} {p:List Value} {x:DataW H×List MemPlace} (h:DataW.trod enc Tryz.prog w base spare held d 28 p=some x) (f:(x.1.weights Tryz.prog 28).all (·≤reachBytes)=true):
  ∃(v:Value) (l:List Int),p=[v]∧bg w v l.length 1 (ib l)∧l.length * 8≤140737488351232∧∀z∈l, -9223372036854775808≤z∧z≤9223372036854775807:=by
 rcases open_slice1 Tryz.underlying28 EG h with ⟨rfl,rfl⟩ | ⟨a,b,u,m,n,V,D,F,rfl,_,B,G,o,rfl,E⟩
 ·exact ⟨_,[],rfl,⟨rfl,.inl ⟨rfl,_,_,rfl⟩⟩,by decide,fun z f=>by cases f⟩
 ·have C:b≤m:=by rw [o];split <;> omega
  have g:=zx Tryz.underlying28 f;simp only [List.length_map,List.length_range,ML] at g
  have c:∀i,i < b→∃s:Int,w.cell? (a.add i)=some (.int .i64 s)∧ -9223372036854775808≤s∧s≤9223372036854775807:=fun i r=>by
   obtain ⟨y,A⟩:=E i (by omega);obtain ⟨s,e,_,g⟩:=DataW.trod_int Tryz.underlying3 A;simp only [List.cons.injEq,and_true] at e;exact ⟨s,by rw [y,e],qE g⟩
  obtain ⟨S,q⟩:=choose_lt c;have t:((List.range b).map S).length=b:=by simp
  refine ⟨_,(List.range b).map S,rfl,?_,by rw [t];exact g,fun z f=>?_⟩
  ·rw [t];refine J4 (by decide) (by simp [ib]) B fun j k=>?_;rw [Nat.mul_one] at k;rw [(q j k).1];simp [ib,k]
  ·obtain ⟨i,r,rfl⟩:=List.mem_map.1 f;exact (q i (List.mem_range.1 r)).2
end
open Go.RowKit
theorem LZ (cs:List Int) (v:Value) (a4:Int) (w:World) (hg:iR w) (hr:bg w v cs.length 1 (ib cs)) (t6:cs.length≤140737488351232) (i5:∀x∈cs, -9223372036854775808≤x∧x≤9223372036854775807) (hf: -9223372036854775808≤a4∧a4≤9223372036854775807):
  Calls Tryz.prog 6 #[v,.int .i64 a4] w fun e w'=>e= .returned (.bool true)∧Below w.heap.size w w':=by
 have H1:=Lib.hid (zj 3 500 19 w (by decide) (by decide) (by decide));rw [Np] at H1;have f3:Hid (∀(vD vN vU vW:Value) (W:World),jZ W Nj vD vN vU vW→iR W→_):=Lib.hid (fun vD vN vU vW W P h2=>Cl (a:=3) (b:=500) (d:=19) (by decide) (by decide) (by decide) vD vN vU vW W P h2);have m2:Hid (Nj.waits=[1,5,2]):=Lib.hid rfl;have q3:Hid (Nj.life=20):=Lib.hid rfl;have q1:Hid (cQ Nj=[109,120,46,111,114,103]):=Lib.hid rfl;have HG:=Lib.hid hg;have r0:=Lib.hid hr;have w0:=Lib.hid i5
 have v4:cs≠[]→∀k,v.ownBlock=some k→k < w.heap.size:=fun n7 k e=>by
  obtain ⟨a,m4,ev,hc⟩:=hr.one;obtain ⟨b,o0,ea,hb,_⟩:=hc 0 (List.length_pos_iff.2 n7);rw [ev,ea] at e;have e:b=k:=by simpa [Value.ownBlock] using e
  rw [←e];exact hb
 have y6:=Lib.hid v4;have x1:=Lib.hid t6
 obtain ⟨a0,s0,k8⟩:∃a:Nat,cM a4 2=(a:Int)∧(a=0∨a=1):=by
  have:=dt a4 (n:=2) (by decide);exact ⟨(cM a4 2).toNat,by omega,by omega⟩
 have q6:Hid (∀W:World,Calls Tryz.prog 20 #[.int .i64 a4,.int .i64 2] W fun e w'=>e= .returned (.int .i64 (a0:Int))∧W=w'):=Lib.hid fun W=>by
  have:=bZ a4 2 W hf.1 hf.2 (by decide) (by decide);rw [s0] at this;exact this
 obtain ⟨I,f7,n9⟩:∃I,(#[Value.string (bs MK),.string (bs [])]:Array Value)[a0]? =some (.string (bs I))∧(I=MK∨I=[]):=by
  rcases k8 with rfl | rfl
  ·exact ⟨MK,rfl,.inl rfl⟩
  ·exact ⟨[],rfl,.inr rfl⟩
 have D0:(a0:Int) < 2:=by omega
 obtain ⟨k4,k5,k6⟩:=Nx n9;have h6:=Lib.hid k4;have h7:=Lib.hid k5;have q8:=Lib.hid k6;have r2:=Lib.hid n9;obtain ⟨c,ec⟩:∃c,Nj=c:=⟨_,rfl⟩;have x7:=Lib.hid ec;rw [show dD 3 500 19=c from ec] at f3;rw [ec] at H1 f3 m2 q3 q1;clear hr hg i5 v4 t6 hf ec k8 s0 k4 k5 k6 n9;go_enter Tryz.func6,Tryz.ntmps6;go_wp2_with fail
 refine H1.out.mono ?_;rintro e w1 ⟨vD,vN,vU,vW,rfl,d0,t1⟩;obtain ⟨aD,cD,eD⟩:=aE d0.1;obtain ⟨aN,cN,eN⟩:=aE d0.2.1;obtain ⟨aU,cU,eU⟩:=aE d0.2.2.1;obtain ⟨aW,cW,eW⟩:=aE d0.2.2.2;subst eD eN eU eW;have p1:=Lib.hid d0;have l1:=Lib.hid t1;clear d0 t1;go_wp2_with fail
 obtain ⟨Wa,n0⟩:∃W:World,w1.alloc (.cells #[.string c.host,.slice aD c.doms.length cD,.slice aN c.nets.length cN,.slice aU c.users.length cU,.int .i64 c.most,.int .i64 c.size,.slice aW c.waits.length cW,.int .i64 c.life,.int .i64 c.room] 30)=W:=⟨_,rfl⟩;have ba:Below w1.heap.size w1 Wa:=by rw [←n0];exact (Below.refl _ _).alloc (Nat.le_refl _) _
 rw [n0];have T:=Lib.hid (l1.out.trans (ba.mono l1.out.size));have p2:=Lib.hid (p1.out.below ba);have H2:=Lib.hid (f3.out _ _ _ _ Wa p2.out (HG.out.below T.out));clear ba n0 f3 H1;refine H2.out.mono ?_;rintro e w2 ⟨u,E,own,G,vS,vM,sl,ml,rfl,hA,hS,t2⟩;have o3:=Lib.hid hA;have f6:=Lib.hid hS;have d3:=Lib.hid t2;have v5:∀W:World,Below w2.heap.size w2 W→W.cell? ⟨u,0,none⟩=some (.pointer (some ⟨G,0,none⟩)):=fun W hb=>(hA.below hb).cells.1;have y7:=Lib.hid v5;clear hA hS t2 H2 v5;go_wp2_with fail
 refine (q6.out _).mono ?_;rintro e wx ⟨rfl,rfl⟩;obtain ⟨W3,g4⟩:∃W,w2.alloc (.cells #[.string ⟨#[109,101,64,104,101,114,101,46,111,114,103]⟩,.string ⟨#[]⟩] 9)=W:=⟨_,rfl⟩;have x3:W3.heap[w2.heap.size]? =some (.cells #[.string ⟨#[109,101,64,104,101,114,101,46,111,114,103]⟩,.string ⟨#[]⟩] 9 (0,0)):=by rw [←g4];exact heap_alloc_new w2 _
 have b3:Below w2.heap.size w2 W3:=by rw [←g4];exact (Below.refl _ _).alloc (Nat.le_refl _) _
 have z4:W3.cell? ⟨w2.heap.size,a0,none⟩=some (.string (bs I)):=by rw [Lib.cell_of_heap x3];exact f7
 rw [g4];have f9:=o3.out.below b3;have z0:=f9.cells.1;have n3:=f9.post.conn 256 (by decide) (by decide) (show 1 < 100 by decide);rw [show (((I5 c).l.length:Nat):Int)=1 from rfl] at n3;have p3:=Lib.hid n3;have o4:=Lib.hid f9;have f2:=Lib.hid b3;have B3:=aG I
 have B2:I.length≤11:=by
  rcases r2.out with e | e
  ·rw [e];decide
  ·rw [e];decide
 clear f9 n3 x3 g4 b3 f7;go_wp2_with fail
 refine p3.out.mono ?_;rintro e w4 ⟨rfl,u5⟩;obtain ⟨f1,a1,a2,a3⟩:=o4.out.call u5 rfl;have z1:=a1.cells.1;have l0:=Lib.hid a1;have l8:=Lib.hid a2;have d4:=Lib.hid a3;clear u5 a1 a2 a3 z0 z4 p3
 have g9:=l0.out.post.recv 1 (s:=dI c 256) rfl (Nb I) (by
  unfold Nb;rw [List.length_append,List.length_append];have P:Nr.length=19:=rfl;have h2:Nt.length=73:=rfl
  omega)
 have hh:cL c (dI c 256,Cj,I6,[]) (Nb I)=M6 I:=by rw [←x7.out];rfl
 have g9:Calls Tryz.prog 14 #[.pointer (some ⟨G,0,none⟩),.int .i64 1,.string ((⟨#[72,69,76,79,32,120,13,10,77,65,73,76,32,70,82,79,77,58,60]⟩:ByteArray)++bs I++⟨#[62,13,10,82,67,80,84,32,84,79,58,60,112,64,99,46,111,114,103,62,13,10,82,67,80,84,32,84,79,58,60,113,64,99,46,111,114,103,62,13,10,82,67,80,84,32,84,79,58,60,114,64,99,46,111,114,103,62,13,10,68,65,84,65,13,10,46,120,13,10,46,13,10]⟩)] w4 fun e w'=>e= .returned (.tuple #[.string (bs Mg),.int .i64 0])∧∃L2,tB E f1 G u c w4 vS vM sl ml (Nq I c L2) w':=by
  have e1:(⟨#[72,69,76,79,32,120,13,10,77,65,73,76,32,70,82,79,77,58,60]⟩:ByteArray)=bs Nr:=rfl;have V:(⟨#[62,13,10,82,67,80,84,32,84,79,58,60,112,64,99,46,111,114,103,62,13,10,82,67,80,84,32,84,79,58,60,113,64,99,46,111,114,103,62,13,10,82,67,80,84,32,84,79,58,60,114,64,99,46,111,114,103,62,13,10,68,65,84,65,13,10,46,120,13,10,46,13,10]⟩:ByteArray)=bs Nt:=rfl;rw [e1,V,cE,cE];refine g9.mono ?_;rintro e w5 ⟨rfl,g8⟩;have g8:mr E f1 G c w4 (cL c (dI c 256,Cj,I6,[]) (Nb I)).2.1 (cL c (dI c 256,Cj,I6,[]) (Nb I)).2.2.1 _ none (oS Cj (cL c (dI c 256,Cj,I6,[]) (Nb I)).2.1 (I5 c).d) w5:=g8;have e3:(cL c (dI c 256,Cj,I6,[]) (Nb I)).2.2.2=Mg:=by rw [hh];exact h7.out
  rw [hh,h6.out] at g8;obtain ⟨h,a1,a2,a3⟩:=l0.out.call g8 rfl;refine ⟨?_,_,h,a1,a2,a3⟩;show Ending.returned (.tuple #[.string (bs (cL c (dI c 256,Cj,I6,[]) (Nb I)).2.2.2),.int .i64 0])=_;rw [e3]
 have q7:=Lib.hid g9;have A7:(bs Mg).size=64:=by rw [aG];rfl
 have qo:(((bs Mg).extract 50 64).toList == [13,10,50,53,48,32,107,101,112,116,32,50,13,10])=true:=by
  rw [fW,ByteArray.toList_eq,aI];rfl
 clear g9 hh;go_wp2_with fail
 refine q7.out.mono ?_;rintro e w5 ⟨rfl,L2,s5⟩;have q0:=Lib.hid s5;clear s5 q7 z1;go_wp2_with fail
 clear A7 qo;obtain ⟨W6,g5⟩:∃W,w5.alloc (.cells #[.string ⟨#[112,64,99,46,111,114,103]⟩,.string ⟨#[113,64,99,46,111,114,103]⟩,.string ⟨#[114,64,99,46,111,114,103]⟩] 9)=W:=⟨_,rfl⟩;rw [g5];have x6:W6.heap[w5.heap.size]? =some (.cells #[.string (bs Nk),.string (bs Nl),.string (bs Nn)] 9 (0,0)):=by rw [←g5];exact heap_alloc_new w5 _
 have b6:Below w5.heap.size w5 W6:=by rw [←g5];exact (Below.refl _ _).alloc (Nat.le_refl _) _
 obtain ⟨h,c9,u3,n2⟩:=q0.out;have s4:=c9.below b6;have v6:w5.heap.size < W6.heap.size:=ah x6
 have v3:¬(w5.heap.size=G∨h w5.heap.size∨fX u vS vM w5.heap.size):=fun e=>by
  rcases e with e | e | e
  ·have:=c9.post.elt c9.post.epp;omega
  ·have:=c9.post.lt e;omega
  ·have:=(c9.off _ e).1;omega
 have s6:=H6.start s4 3
 have v0:∀k (hk:k < LI.length),W6.cell? ⟨w5.heap.size,k,none⟩=some (.string (bs LI[k])):=fun k hk=>by
  rw [Lib.cell_of_heap x6];have hk:k < 3:=hk;have:k=0∨k=1∨k=2:=by omega
  rcases this with rfl | rfl | rfl <;> rfl
 have x9:=Lib.hid s6;have d7:=Lib.hid v0;have r3:=Lib.hid v3;have r5:=Lib.hid v6
 have g6:∀k,k=G∨h k∨fX u vS vM k→w.heap.size≤k:=fun k e=>by
  have h0:∀k,k=G∨own k∨fX u vS vM k→w.heap.size≤k:=fun k e=>Nat.le_trans T.out.size (f6.out k e);have h3:w.heap.size≤W3.heap.size:=Nat.le_trans T.out.size (Nat.le_trans d3.out.size f2.out.size);have h4:=d4.out.size
  rcases e with e | e | e
  ·exact h0 k (.inl e)
  ·rcases u3 k e with e | e
   ·rcases l8.out k e with e | e
    ·exact h0 k (.inr (.inl e))
    ·omega
   ·omega
  ·exact h0 k (.inr (.inr e))
 have i8:∀k,k=G∨f1 k→w.heap.size≤k:=fun k e=>by
  have h3:w.heap.size≤W3.heap.size:=Nat.le_trans T.out.size (Nat.le_trans d3.out.size f2.out.size)
  rcases e with e | e
  ·exact g6 k (.inl e)
  ·rcases l8.out k e with e | e
   ·exact Nat.le_trans T.out.size (f6.out k (.inr (.inl e)))
   ·omega
 have c6:Below w.heap.size w W6:=by
  have h0:∀k,k=G∨own k→w.heap.size≤k:=fun k e=>Nat.le_trans T.out.size (f6.out k (e.imp id .inl));have P:Below w.heap.size w W3:=(T.out.trans (d3.out.mono T.out.size)).trans (f2.out.mono (Nat.le_trans T.out.size d3.out.size));have h2:Below w.heap.size W3 w4:=d4.out.toBelow (fun k e=>h0 k e) P.size;have h3:Below w.heap.size w4 w5:=n2.toBelow (fun k e=>i8 k e) (Nat.le_trans P.size d4.out.size);exact ((P.trans h2).trans h3).trans (b6.mono (Nat.le_trans (Nat.le_trans P.size d4.out.size) n2.size))
 have l2:Hid (∀(g:GS) (W:World) (Ls:List (Value×List (List UInt8))),H6 E h G u c W6 vS vM sl ml g W Ls→Below w.heap.size w W):=Lib.hid fun g W Ls hM=>by
  obtain ⟨_,_,_,hc⟩:=hM;exact c6.trans (hc.toBelow g6 c6.size)
 have h5:=Lib.hid g6;have o7:=Lib.hid c6;have h8:∀(g:GS) (W:World) (Ls:List (Value×List (List UInt8))),H6 E h G u c W6 vS vM sl ml g W Ls→∀k (hk:k < LI.length),W.cell? ⟨w5.heap.size,k,none⟩=some (.string (bs LI[k])):=fun g W Ls hM k hk=>(hM.cell r5.out r3.out k).trans (d7.out k hk);have p4:=Lib.hid h8;clear g6 i8 c6 h8 x6 b6 c9 u3 n2 s4 v6 v3 s6 v0 g5 l0 l8 d4 o4 f2 p2 p1 l1 o3 f6 y7 d3 HG d7 r3 r5 q6 h6 h7 q8 q0;go_loopw [14,15,16,17,18] (fun vA vB vC nm vi wr=>∃(i m:Nat) (g:GS) (A B C:List (List UInt8)),nm= .int .i64 m∧vi= .int .i64 i∧Hid (LM I g A B C m i)∧Hid (H6 E h G u c W6 vS vM sl ml g wr [(vA,A),(vB,B),(vC,C)])) (fun _ _ _ _ vi _=>127 - (intOf vi).toNat)
 case atStart=>exact ⟨0,2,Nq I c L2,[],[],[],rfl,rfl,Lib.hid (Na I c L2),x9⟩
 case round=>
  obtain ⟨i,m,g,A,B,C,rfl,rfl,HI,HM⟩:=hrel;have B0:=HI.out.idx;have A2:(i:Int) < 600:=by omega
  obtain ⟨C5,C6⟩:=HI.out.small;obtain ⟨v7,hL,ho,hc⟩:=HM.out;obtain ⟨aA,cA,eA⟩:=aE (hL.tx 0 _ rfl).at;obtain ⟨aB,cB,eB⟩:=aE (hL.tx 1 _ rfl).at;obtain ⟨aC,cC,eC⟩:=aE (hL.tx 2 _ rfl).at;have eA:u14= .slice aA A.length cA:=eA;have eB:u15= .slice aB B.length cB:=eB;have eC:u16= .slice aC C.length cC:=eC;subst eA eB eC;have c0:=hL.at_.cells.1;have HQ:=Lib.hid hL.at_.post.queue;have S:Hid (oK (g.S,g.recs)):=Lib.hid hL.at_.post.sok;have s8:∀k,(Value.slice aC C.length cC).ownBlock=some k→k < wr.heap.size:=fun k e=>((hL.tx 2 _ rfl).ge e).2;have d7:=Lib.hid s8;clear hL ho hc s8;go_wp2_with fail
  refine HQ.out.mono ?_;rintro e w7 ⟨vq,c8,rfl,a7,X,t3⟩;rw [Bv S.out.ok] at X;have A3:g.S.items.length≤1000000:=S.out.led.items
  have a6:(g.S.live.map g.S.toldOf).length≤1000000:=by
   rw [List.length_map];have P:g.S.live.length≤(List.range g.S.items.length).length:=List.length_filter_le _ _;rw [List.length_range] at P;omega
  obtain ⟨U,m7,b0⟩:=HI.out.seen;obtain ⟨D,eD⟩:∃D,C++U=D:=⟨_,rfl⟩;rw [eD] at m7;have x8:=Lib.hid eD;clear eD;have M:=Lib.hid m7
  have C9:U.length≤10:=by
   rcases b0 with ⟨e,_⟩ | ⟨_,_,_,e,_⟩
   ·rw [e];exact Nat.zero_le _
   ·exact e.1
  have d6:Hid (Calls Tryz.prog 25 #[vq,.int .i64 (m:Int),.string (bs I)] w7 fun e w'=>∃v',e= .returned (.tuple #[v',.int .i64 (g.S.items.length:Int)])∧LJ w7.heap.size w' v' U∧Below w7.heap.size w7 w'):=Lib.hid (by
   have d9:=Es a7 X
   rcases b0 with ⟨e1,V,e3⟩ | ⟨e1,V,e3,e4,E8,e5,e6,e7,e8,e9⟩
   ·refine (vv (sd:=I) d9 a6 e3).mono ?_;rintro e w8 ⟨rfl,rfl⟩;exact ⟨_,by rw [V],by rw [e1];exact LJ.zero _ _,Below.refl _ _⟩
   ·have f7:I=MK:=r2.out.resolve_right e3;rw [f7] at e8 ⊢;refine (L3 d9 a6 e5 e6 (by show m < m+1;omega) e4 V e7 e8 e9).mono ?_;rintro e w8 ⟨v',rfl,P,h2⟩
    exact ⟨v',by rw [e1];rfl,P,h2⟩)
  obtain ⟨aq,cq,z7⟩:=aE (aF a7.row);have r1:=Lib.hid a7;have y5:=Lib.hid X;have w3:=Lib.hid t3
  have n8:c8.length=g.S.live.length:=by
   have P:=congrArg List.length X;rw [List.length_map,List.length_map] at P;exact P
  subst z7;have m0:=Lib.hid n8;obtain ⟨R,eR⟩:∃R,c8.length=R:=⟨_,rfl⟩;have l5:=Lib.hid eR;rw [eR] at d6 ⊢;have hR:R≤1000000:=by rw [←eR,n8];rw [List.length_map] at a6;exact a6
  clear a7 X t3 b0 HQ c0 m7 a6 n8 eR A3;go_wp2_with fail
  refine d6.out.mono ?_;rintro e w8 ⟨vu,rfl,m9,n1⟩;have s7:=(HM.out.below w3.out).below n1;obtain ⟨v',w9,k1,H,k3⟩:=s7.more (n:=2) (v:= .slice aC C.length cC) (l:=C) rfl m9 (by omega) (by omega);have H:H6 E h G u c W6 vS vM sl ml g w9 [(.slice aA A.length cA,A),(.slice aB B.length cB,B),(v',D)]:=by rw [←x8.out];exact H
  have HR:=Lib.hid k1;have l6:=Lib.hid H;have u7:iT wr.heap.size w9 (.slice aq c8.length cq) c8:=(r1.out.keep n1).chg k3 (fun k P h2=>by have:=d7.out k h2;omega);have u6:=(Es u7 y5.out).cells.2;obtain ⟨au,cu,eu⟩:=aE m9.at;obtain ⟨av,cv,ev⟩:=aE (H.tx (n:=2) rfl).at;have ev:v'= .slice av D.length cv:=ev;subst eu ev;have y2:=Lib.hid u6;have B6:Hid (Below w.heap.size w w9):=Lib.hid (l2.out _ _ _ H);clear k1 H k3 s7 m9 n1 u7 u6 d6 r1 HM d7
  go_wp2_with (first
   | (at_builtin;refine bB rfl _ _ 25 rfl _ _ (.slice av D.length cv) w9 rfl rfl HR.out ?_)
   | fail)
  go_loopw [23,24] (fun t v o2=>∃(k:Nat) (b:Bool),k≤R∧v= .int .i64 k∧t= .bool b∧Hid (b=decide (1∈g.S.live.take k))∧w9=o2) (fun _ v _=>R - (intOf v).toNat)
  case atStart=>exact ⟨0,false,Nat.zero_le _,rfl,rfl,Lib.hid (by simp),rfl⟩
  case round=>
   obtain ⟨k,b,hk,rfl,rfl,m1,rfl⟩:=hrel
   by_cases A4:k < R
   ·have u1:(k:Int) < (R:Int):=by omega
    have g7:k < g.S.live.length:=by rw [←m0.out,l5.out];exact A4
    obtain ⟨qb,o0,C1,ct,z5,_,cj,n5⟩:=y2.out k (by rw [List.length_map];exact g7);have s3:(g.S.live.map g.S.toldOf)[k]'(by rw [List.length_map];exact g7)=g.S.toldOf g.S.live[k]:=List.getElem_map ..;rw [s3] at cj;obtain ⟨x,ex⟩:∃x,g.S.live[k]=x:=⟨_,rfl⟩;rw [ex] at cj;have cx:w9.cell? ⟨qb,o0+k * 5,none⟩=some (.int .i64 ((x:Int)+1)):=cj
    have a8:decide (1∈g.S.live.take (k+1))=(decide (1∈g.S.live.take k) || decide (1=x)):=by
     rw [List.take_succ_eq_append_getElem g7,ex,Bool.eq_iff_iff];simp [List.mem_append]
    have d8:=Lib.hid a8;subst z5;clear n5 cj s3 ex a8 g7
    cases b with
    | true=>
     have HN:Hid (true=decide (1∈g.S.live.take (k+1))):=Lib.hid (by rw [d8.out,←m1.out];rfl);go_wp2_with fail
     exact ⟨⟨k+1,true,by omega,by go_num,rfl,HN,trivial⟩,by simp [intOf];omega⟩
    | false=>
     by_cases hx:x=1
     ·have HN:Hid (true=decide (1∈g.S.live.take (k+1))):=Lib.hid (by rw [d8.out,decide_eq_true hx.symm,Bool.or_true]);have C3:w9.cell? ⟨qb,o0+k * 5,none⟩=some (.int .i64 2):=by rw [cx,hx];rfl
      clear hx cx;go_wp2_with fail
      exact ⟨⟨k+1,true,by omega,by go_num,rfl,HN,trivial⟩,by simp [intOf];omega⟩
     ·have HN:Hid (false=decide (1∈g.S.live.take (k+1))):=Lib.hid (by rw [d8.out,←m1.out,decide_eq_false (fun e=>hx e.symm)];rfl);have E6:((x:Int)+1 == 2)=false:=by rw [beq_eq_false_iff_ne];omega
      clear hx;go_wp2_with fail
      exact ⟨⟨k+1,false,by omega,by go_num,rfl,HN,trivial⟩,by simp [intOf];omega⟩
   ·have u1:¬(k:Int) < (R:Int):=by omega
    have hb:b=decide (1∈g.S.live):=by
     have P:=m1.out;rw [List.take_of_length_le (by rw [←m0.out,l5.out];omega)] at P;exact P
    by_cases d1:g.S.stayOf 1=[]
    ·have A0:b=false:=by rw [hb,decide_eq_false];exact fun e=>(jT.1 e).2 d1
     subst A0;have l4:=Lib.hid d1;clear hb d1;obtain ⟨t7,t8,t9⟩:=M.out.done rfl l4.out;have x2:=Lib.hid t7;have p6:=Lib.hid t8;have p7:=Lib.hid t9;have y1:=Lib.hid M.out.nd;clear t7 t8 t9;go_wp2_with fail
     go_loopw [15,29] (fun vB v o2=>∃k:Nat,k≤3∧v= .int .i64 k∧Hid (H6 E h G u c W6 vS vM sl ml g o2 [(.slice aA A.length cA,A),(vB,tt A B k),(.slice av D.length cv,D)])) (fun _ v _=>3 - (intOf v).toNat)
     case atStart=>exact ⟨0,by omega,rfl,Lib.hid (by rw [MU];exact l6.out)⟩
     case round=>
      obtain ⟨k,D2,rfl,O⟩:=hrel;obtain ⟨ab,cb,eb⟩:=aE (O.out.tx (n:=1) rfl).at;have eb:u15= .slice ab (tt A B k).length cb:=eb;subst eb;have n4:=MZ A B k
      by_cases hk:k < 3
      ·have D6:(k:Int) < 3:=by omega
       have n6:k < LI.length:=hk;have ct:=p4.out _ _ _ O.out k n6;obtain ⟨x,ex⟩:∃x,LI[k]=x:=⟨_,rfl⟩;have c3:=M3 y1.out n6;rw [ex] at ct c3;have p5:=Lib.hid (EJ A x _ wr (O.out.tx (n:=0) rfl).at (by omega));have l3:=Lib.hid (EJ (tt A B k) x _ wr (O.out.tx (n:=1) rfl).at (by omega));obtain ⟨cx,s1⟩:∃n,A.count x=n:=⟨_,rfl⟩;obtain ⟨cy,s2⟩:∃n,(tt A B k).count x=n:=⟨_,rfl⟩;rw [s1] at p5 c3;rw [s2] at l3 c3;obtain ⟨q,m4,W2,k1,H⟩:=O.out.one (n:=1) (v:= .slice ab (tt A B k).length cb) (l:=tt A B k) rfl x (by omega);have HR:=Lib.hid k1;have q2:=Lib.hid H;have D1:cx≤1∧cy≤1:=by rcases c3 with ⟨e,_⟩ | ⟨e,_⟩ <;> omega
       obtain ⟨F,eF⟩:∃F,tt A B k=F:=⟨_,rfl⟩;rw [eF] at l3 O HR q2 c3 n4 ⊢;clear k1 H s1 s2 ex n6 eF;have B5:=Lib.hid c3;go_wp2_with fail
       refine p5.out.mono ?_;rintro e wx ⟨rfl,rfl⟩;go_wp2_with fail
       refine l3.out.mono ?_;rintro e wx ⟨rfl,rfl⟩
       rcases c3 with ⟨es,ef⟩ | ⟨es,ef⟩
       ·have f5:Hid (H6 E h G u c W6 vS vM sl ml g wr [(.slice aA A.length cA,A),(.slice ab F.length cb,tt A B (k+1)),(.slice av D.length cv,D)]):=Lib.hid (by rw [ef];exact O.out);clear ef;have A6:(cx=1∧cy=0)∨(cx=0∧cy=1):=by omega
        rcases A6 with ⟨rfl,rfl⟩ | ⟨rfl,rfl⟩
        ·go_wp2_with fail
         exact ⟨⟨k+1,by omega,by go_num,f5⟩,by simp [intOf];omega⟩
        ·go_wp2_with fail
         exact ⟨⟨k+1,by omega,by go_num,f5⟩,by simp [intOf];omega⟩
       ·have f5:Hid (H6 E h G u c W6 vS vM sl ml g W2 [(.slice aA A.length cA,A),(.slice (some ⟨q,0,none⟩) (F.length+1) m4,tt A B (k+1)),(.slice av D.length cv,D)]):=Lib.hid (by rw [ef];exact q2.out);clear ef;obtain ⟨rfl,rfl⟩:cx=0∧cy=0:=by omega
        go_wp2_with (first
         | (at_builtin;refine bB rfl _ _ 25 rfl _ _ (.slice (some ⟨q,0,none⟩) (F.length+1) m4) W2 rfl rfl HR.out ?_)
         | fail)
        exact ⟨⟨k+1,by omega,by go_num,f5⟩,by simp [intOf];omega⟩
      ·obtain rfl:k=3:=by omega
       rw [MY] at O n4 ⊢;obtain ⟨F,eF⟩:∃F,B++KX A B=F:=⟨_,rfl⟩;rw [eF] at O n4 p6 p7 ⊢;obtain ⟨v7,hL,_,_⟩:=O.out;have c0:=hL.at_.cells.1;have HQ:=Lib.hid hL.at_.post.queue;have C7:D.length≤10:=M.out.small.2;clear hL eF;go_wp2_with fail
       refine HQ.out.mono ?_;rintro e L ⟨F0,A9,rfl,a7,X,i2⟩;rw [Bv S.out.ok] at X;have d9:=Es a7 X;have a6:(g.S.live.map g.S.toldOf).length≤1000000:=by rw [List.length_map,←m0.out,l5.out];exact hR
       have d6:=Lib.hid (vv (sd:=I) (m:=g.S.items.length) d9 a6 (fun y hy=>by
        obtain ⟨z,hz,rfl⟩:=List.mem_map.1 hy
        exact bq hz))
       have J:=O.out.below i2;obtain ⟨v2,c4,k1,H,k3⟩:=J.more (n:=2) (v:= .slice av D.length cv) (l:=D) rfl (LJ.zero L.heap.size L) (by omega) (by decide)
       have H:H6 E h G u c W6 vS vM sl ml g c4 [(.slice aA A.length cA,A),(.slice ab F.length cb,F),(v2,D)]:=by
        have e:=H;rw [List.append_nil] at e;exact e
       obtain ⟨a2,c2,V⟩:=aE (H.tx (n:=2) rfl).at;have V:v2= .slice a2 D.length c2:=V;obtain ⟨B9,C2,z6⟩:=aE (aF a7.row);subst V z6;have o5:=Lib.hid (Mz F D I _ _ c4 (H.tx (n:=1) rfl).at (H.tx (n:=2) rfl).at (by omega) p7.out x2.out p6.out);have HR:=Lib.hid k1;have w6:=Lib.hid (l2.out _ _ _ H);clear k1 H k3 J d9 a7 X i2 a6 c0 HQ;go_wp2_with fail
       refine d6.out.mono ?_;rintro e wx ⟨rfl,rfl⟩
       go_wp2_with (first
        | (at_builtin;refine bB rfl _ _ 25 rfl _ _ (.slice a2 D.length c2) c4 rfl rfl HR.out ?_)
        | fail)
       refine o5.out.mono ?_;rintro e wx ⟨rfl,rfl⟩;go_wp2_with fail
       go_ret;exact ⟨rfl,w6.out⟩
    ·have A1:b=true:=by rw [hb,decide_eq_true (zo d1)]
     subst A1;have d2:=Lib.hid d1;clear hb d1
     have f4:Hid (Calls Tryz.prog 22 #[.pointer (some ⟨G,0,none⟩)] w9 fun e w'=>(e= .returned (.tuple #[.int .i64 0,.int .i64 5])∧H6 E h G u c W6 vS vM sl ml g w' [(.slice aA A.length cA,A),(.slice aB B.length cB,B),(.slice av D.length cv,D)])∨∃j,j∈g.S.live∧(g.d j).1≤(g.S.time:Int)∧e= .returned (.tuple #[.int .i64 ((j:Int)+1),.int .i64 0])∧H6 E h G u c W6 vS vM sl ml {g with tk:=some (jM g.S j)} w' [(.slice aA A.length cA,A),(.slice aB B.length cB,B),(.slice av D.length cv,D)]):=Lib.hid (by
      obtain ⟨B4,a9,u4,t4⟩:=l6.out;have hp:=a9.at_.post;rw [M.out.tk] at hp;refine hp.dial.mono ?_;rintro e L (⟨_,H,k3⟩ | ⟨j,k1,k0,H,k3⟩)
      ·rw [←M.out.tk] at k3;obtain ⟨o,a1,a2,a3⟩:=a9.at_.call k3 rfl;exact .inl ⟨H,H6.post a9 u4 t4 ⟨o,a1,a2,a3⟩⟩
      ·obtain ⟨o,a1,a2,a3⟩:=a9.at_.call k3 rfl
       exact .inr ⟨j,k1,k0,H,H6.post a9 u4 t4 ⟨o,a1,a2,a3⟩⟩)
     have m3:w9.cell? ⟨u,0,none⟩=some (.pointer (some ⟨G,0,none⟩)):=by
      obtain ⟨_,a9,_,_⟩:=l6.out;exact a9.at_.cells.1
     go_wp2_with fail
     refine f4.out.mono ?_;rintro e L (⟨rfl,J⟩ | ⟨j,hj,hd,rfl,J⟩)
     ·obtain ⟨o,f,p,K⟩:=J;have u9:=(M.out.stay d2.out).2.1;have a5:=M.out.tick q3.out S.out rfl d2.out;have a8:=f.at_.tickB M.out.tk (g.S.time+1) ⟨Nat.le_succ _,by omega⟩ ((Below.refl _ _).drew)
      obtain ⟨C0,b1,b2,b3,b4,b5,b6,b7⟩:=f.at_.blk;have z2:=f.at_.cells.1;have r6:=f.at_.cells.2.2.2.1;have z9:=f.at_.cells.2.2.2.2.2 12;have e0:=(f.at_.post.laters.1 (g.S.time+1) ⟨Nat.le_succ _,by omega⟩).2;obtain ⟨N,eN⟩:∃N,g.S.time=N:=⟨_,rfl⟩;rw [eN] at a8 r6 u9 a5 e0;rw [show ((N+1:Nat):Int)=(N:Int)+1 by omega] at a8
      have b8:=heap_setCell_same L u 12 _ _ (.int .i64 ((N:Int)+1)) b1;have E3:IntKind.i64.wrap ((N:Int)+1)=(N:Int)+1:=by rw [IntKind.wrap_i64];omega
      have d5:=Lib.hid a5;have Q:=Lib.hid f;have Z:=Lib.hid p;have Y:=Lib.hid K;clear a5 f p K f4 m3;go_wp2_with fail
      obtain ⟨W7,t0⟩:∃W,L.setCell ⟨u,12,none⟩ (.int .i64 ((N:Int)+1))=W:=⟨_,rfl⟩;rw [t0] at a8 b8 ⊢;have z3:W7.cell? ⟨u,0,none⟩=some (.pointer (some ⟨G,0,none⟩)):=by rw [Lib.cell_of_heap b8,Array.getElem?_setIfInBounds_ne (by decide)];exact b3
      have r9:W7.cell? ⟨u,12,none⟩=some (.int .i64 ((N:Int)+1)):=by rw [Lib.cell_of_heap b8,Array.getElem?_setIfInBounds_self_of_lt (by omega)]
      have d8:=Lib.hid a8
      have y8:Hid (∀(c7:Nat→Prop) (w8:World),gX E c7 G u c w8 vS vM sl ml (yj c g (N+1))→w8.cell? ⟨u,0,none⟩=some (.pointer (some ⟨G,0,none⟩))∧w8.cell? ⟨u,12,none⟩=some (.int .i64 ((N:Int)+1))):=Lib.hid fun c7 w8 a1=>by
       refine ⟨a1.cells.1,?_⟩;have e0:(yj c g (N+1)).S.time=N+1:=e0;rw [a1.cells.2.2.2.1,e0];rfl
      clear b1 b2 b3 b4 b5 b6 b7 b8 z2 r6 z9 t0 a8 eN e0 u9
      go_region_held3 (fun w'=>w'.cell? ⟨u,0,none⟩=some (.pointer (some ⟨G,0,none⟩))∧w'.cell? ⟨u,12,none⟩=some (.int .i64 ((N:Int)+1)))
       (first | exact S8 | exact ⟨z3,r9⟩)
       (first | (go_at_call 23;refine d8.out.mono ?_;rintro e w8 ⟨rfl,c7,k1,H,k3⟩;have S8:=y8.out c7 w8 k1;have y0:=Lib.hid (H6.game Q.out Z.out Y.out k1 H k3);clear k1 H k3))
      go_wp2_with fail
      exact ⟨⟨i+1,g.S.items.length,yj c g (N+1),A,B,D,rfl,by go_num,d5,y0⟩,by simp [intOf];omega⟩
     ·by_cases u0:j=1
      ·subst u0;have x0:=Lib.hid (l2.out _ _ _ J);obtain ⟨o,f,p,K⟩:=J;have k7:bg L v cs.length 1 (ib cs):=r0.out.below x0.out
       have t5:cs≠[]→∀k,v.ownBlock=some k→¬(k=G∨o k):=fun n7 k e V=>by
        have P:=y6.out n7 k e;have h2:=o7.out.size
        rcases V with V | V
        ·have:=h5.out k (.inl V);omega
        ·rcases p k V with e3 | e3
         ·have:=h5.out k (.inr (.inl e3));omega
         ·omega
       have u2:∀r∈g.S.stayOf 1,2≤r.2.length:=fun r hr=>by
        have P:r.2∈gy (g.S.stayOf 1):=List.mem_map_of_mem hr;rw [(M.out.stay d2.out).1] at P;have h2:r.2=Nk∨r.2=Nl∨r.2=Nn:=by simpa [LI] using (List.mem_filter.1 P).1
        rcases h2 with h2 | h2 | h2 <;> rw [h2] <;> decide
       have f0:=Mp q1.out f.at_ (i:=1) (n:=i) rfl hj u2 cs v k7 x1.out w0.out t5 (by omega);have a5:=M.out.tries m2.out S.out rfl d2.out hd (qc cs i) (some (jM g.S 1));have A5:=Mn (g.S.stayOf 1) (qc cs i) (g.S.stayOf 1).length;have u8:(g.S.stayOf 1).length≤10:=dk S.out.ok 1;have f0:Calls Tryz.prog 27 #[.pointer (some ⟨u,0,none⟩),v,.int .i64 (i:Int)] L fun e w'=>∃vA vB,e= .returned (.tuple #[vA,vB])∧qu E o G u c L vS vM sl ml (Bt c {g with tk:=some (jM g.S 1)} (MW 1 (g.S.stayOf 1) (qc cs i))) w' vA vB (gy (ks (g.S.stayOf 1) (qc cs i) (g.S.stayOf 1).length)) (gy (mc (g.S.stayOf 1) (qc cs i) (g.S.stayOf 1).length)):=f0;obtain ⟨a_,ea⟩:∃a,gy (ks (g.S.stayOf 1) (qc cs i) (g.S.stayOf 1).length)=a:=⟨_,rfl⟩;obtain ⟨b_,eb⟩:∃b,gy (mc (g.S.stayOf 1) (qc cs i) (g.S.stayOf 1).length)=b:=⟨_,rfl⟩;obtain ⟨f8,eg⟩:∃f8,Bt c {g with tk:=some (jM g.S 1)} (MW 1 (g.S.stayOf 1) (qc cs i))=f8:=⟨_,rfl⟩;have i1:a_.length≤10:=by rw [←ea];unfold gy;rw [List.length_map];omega
       have i3:b_.length≤10:=by rw [←eb];unfold gy;rw [List.length_map];omega
       rw [ea,eb,eg] at f0 a5;obtain ⟨A',m5⟩:∃A',A++a_=A':=⟨_,rfl⟩;obtain ⟨B',m6⟩:∃B',B++b_=B':=⟨_,rfl⟩;rw [m5,m6] at a5;have r4:=Lib.hid f0;have d5:=Lib.hid a5;have x4:=Lib.hid m5;have x5:=Lib.hid m6;have Q:=Lib.hid f;have Z:=Lib.hid p;have Y:=Lib.hid K;have o6:=Lib.hid i1;have p0:=Lib.hid i3;clear f0 a5 ea eb eg f p K k7 t5 u2 A5 u8 hd hj m5 m6 f4 m3 i1 i3;go_wp2_with fail
       refine r4.out.mono ?_;rintro e c4 ⟨va,vb,rfl,o1,c5,i9,i4⟩;have m8:LJ L.heap.size c4 va a_:=c5.tx 0 _ rfl;have g0:LJ L.heap.size c4 vb b_:=c5.tx 1 _ rfl;have h9:=H6.post Q.out Z.out Y.out ⟨o1,c5.at_,i9,i4⟩;obtain ⟨v1,v8,k1,H,k3⟩:=h9.more (n:=0) (v:= .slice aA A.length cA) (l:=A) rfl m8 (by omega) (by have:=o6.out;omega)
       have i0:LJ L.heap.size v8 vb b_:=g0.chg k3 (fun k e1 V=>by
        have P:=(g0.ge e1).1;have h2:=((Q.out.tx 0 _ rfl).ge V).2
        omega)
       obtain ⟨v2,v9,j1,j2,j3⟩:=H.more (n:=1) (v:= .slice aB B.length cB) (l:=B) rfl i0 (by omega) (by have:=p0.out;omega)
       have j2:H6 E h G u c W6 vS vM sl ml f8 v9 [(v1,A'),(v2,B'),(.slice av D.length cv,D)]:=by
        rw [←x4.out,←x5.out];exact j2
       obtain ⟨aa,ca,e1⟩:=aE m8.at;obtain ⟨ab,cb,V⟩:=aE g0.at;obtain ⟨a1,c1,e3⟩:=aE (j2.tx (n:=0) rfl).at;obtain ⟨a2,c2,e4⟩:=aE (j2.tx (n:=1) rfl).at;have e3:v1= .slice a1 A'.length c1:=e3;have e4:v2= .slice a2 B'.length c2:=e4;subst e1 V e3 e4;have y3:=Lib.hid k1;have y4:=Lib.hid j1;have q5:=Lib.hid j2;clear k1 H k3 j1 j2 j3 h9 c5 i9 i4 m8 g0 i0 r4
       go_wp2_with (first
        | (at_builtin;refine bB rfl _ _ 25 rfl _ _ (.slice a1 A'.length c1) v8 rfl rfl y3.out ?_)
        | (at_builtin;refine bB rfl _ _ 25 rfl _ _ (.slice a2 B'.length c2) v9 rfl rfl y4.out ?_)
        | fail)
       exact ⟨⟨i+1,g.S.items.length,f8,A',B',D,rfl,by go_num,d5,q5⟩,by simp [intOf];omega⟩
      ·have B1:¬(j:Int)+1=2:=by omega
       obtain ⟨o,f,p,K⟩:=J;have q9:=Lib.hid (L9 f.at_ (t:=jM g.S j) rfl);have d5:=Lib.hid (M.out.hang m2.out d2.out hj hd);have Q:=Lib.hid f;have Z:=Lib.hid p;have Y:=Lib.hid K;clear f p K hd hj u0 f4 m3;go_wp2_with fail
       refine q9.out.mono ?_;rintro e c4 ⟨rfl,i6⟩;have q4:=Lib.hid (H6.post Q.out Z.out Y.out i6);clear i6 q9;go_wp2_with fail
       exact ⟨⟨i+1,g.S.items.length,_,A,B,D,rfl,by go_num,d5,q4⟩,by simp [intOf];omega⟩
open Go.ChangeShapes Go.WideShapes Go.ChangeAt Go.RowKit
theorem El:laidOutB Tryz.prog=true:=by kernel_rfl
theorem LP:(Rows.returnedRow.laid.all fun x=>x.2.handleName?.isNone)=true:=by kernel_rfl
theorem MG:("internal/strconv.uint64pow10",Rows.laid_internal_strconv_uint64pow10)∈Rows.returnedRow.laid:=List.Mem.tail _ (List.Mem.tail _ (List.Mem.head _))
theorem MH:("unicode/utf8.acceptRanges",Rows.laid_unicode_utf8_acceptRanges)∈Rows.returnedRow.laid:=List.Mem.tail _ (List.Mem.tail _ (List.Mem.tail _ (List.Mem.head _)))
theorem MI:("unicode/utf8.first",Rows.laid_unicode_utf8_first)∈Rows.returnedRow.laid:=List.Mem.tail _ (List.Mem.tail _ (List.Mem.tail _ (List.Mem.tail _ (List.Mem.tail _ (List.Mem.tail _ (List.Mem.tail _ (List.Mem.tail _ (List.Mem.tail _ (List.Mem.head _)))))))))
theorem Ma (y:Os) (i:y.Started) (H:Type) (c:TypeId×Value→H):
  ReturnsInHanded {} Tryz.checked y 6 .any (fun w b=>(Rows.returnedSpec.pre c Tryz.prog Tryz.f6 [] false w b∧laidMetH Tryz.prog Rows.returnedRow.laid w)∧sizedMet c Tryz.prog Tryz.f6 (OpenSpec.ofChange Rows.returnedSpec) false w b)
   (Rows.returnedSpec.post c Tryz.prog Tryz.f6 false true false false):=by
 refine pe (C:=Tryz.checked) (X:=fun w _=>laidMetH Tryz.prog Rows.returnedRow.laid w) (fun _ _ _ S h=>h.of_heap S) own i (by kernel_rfl) Tryz.func6
  (ChangeSpec.witness_shaped (enc:=c) (C:=Tryz.checked) (os:=y) (X:=fun w _=>laidMetH Tryz.prog Rows.returnedRow.laid w) false (World.laidAll Tryz.prog y Rows.returnedRow.laid) #[.slice none 0 0,.int .i64 0] 8 (World.laidAll_os _ _ _)
   (World.shaped_of_ZipB (by kernel_rfl) (by kernel_rfl)) (by kernel_rfl) (by kernel_rfl) (by kernel_rfl)
   (by rw [MakeChecks.laidMetH_plain _ _ _ LP];exact laidMet_laidAll _ (by kernel_rfl) (by kernel_rfl))) ?_
 intro W m b M gs A g K _ F d E;rw [MakeChecks.laidMetH_plain _ _ _ LP] at d;have f:∀(j:Nat) t v,Tryz.f6.params[j]? =some t→b[j]? =some v→Value.okWide Tryz.prog W .any m t v:=g;have k:=K;obtain ⟨p,q,o,P,rfl,_,_⟩:=K;have J:DataW.TrodAll c Tryz.prog W 0 (fun _=>true) true Tryz.f6.params.toList b.toList M p:=o;rw [Tryz.params6] at J f;obtain ⟨Z,v1,d0,d1,Y,p1,rfl,rfl,rfl,I,N⟩:=trodAll_two J;obtain ⟨rfl,rfl⟩:=trodVars_none P;obtain ⟨z,rfl,rfl,rfl,L⟩:=open_int Tryz.underlying3 (f 1 3 v1 rfl rfl) N;have B:=I;have r:∀x∈Y,x.block < W.heap.size:=fun x V=>k.lt x (by simp [V]);obtain ⟨a,u,n,rfl⟩:=okWide_slice Tryz.underlying28 (f 0 28 Z rfl rfl);obtain ⟨G,O⟩:=I;obtain ⟨v,l,Q,s,T,D⟩:=MN O (rD F (j:=0) rfl rfl)
 have U:Value.slice a u n=v:=by
  have e:[Value.slice a u n]=[v]:=Q;exact List.cons.inj e |>.1
 subst U;have R:=EW d MG MH MI E;clear o g;refine (LZ l _ z W R s (by omega) D (qE L)).mono fun e W' ⟨he,hb⟩=>?_;subst he;simp only [List.append_nil] at k;exact ⟨_,rfl,_,_,_,[],_,[],k,trodAll_mk1 (shut_bool Tryz.underlying4 _),trodAll_mk2 (Below.trod El (by kernel_rfl) (of_decide_eq_true (by kernel_rfl)) B hb r) (shut_int Tryz.underlying3 L),rfl,hb.frame _,fun h=>by cases h⟩
end Go.Proofs.YtofpegbpgkkgkaaGreatDoor
