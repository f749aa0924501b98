import Derived.Test.YtofpegbpgkkgkaaGreatDoorS45
import Derived.Test.YtofpegbpgkkgkaaGreatDoorS44
import Derived.Test.YtofpegbpgkkgkaaGreatDoorS43
import Derived.Test.YtofpegbpgkkgkaaGreatDoorRows
import Derived.Lib.LaidU8
import Derived.Carry
import Derived.SevenTiedAt
import Derived.Stop.Joined
namespace Go.Proofs.YtofpegbpgkkgkaaGreatDoor
set_option maxHeartbeats 8000000
set_option maxRecDepth 1000000
open Go.RowKit
theorem uE {E own:Nat→Prop} {m l:Nat} {c:bT} {w:World} {p o:Value} {x:List (bV×Value)} {v:List (aR×Value)} {g:GS} (b:eQ c) (h:gL E own m l c w p o x v g) (k:iq g) (a d e:Int) (f: -9223372036854775808≤a∧a≤9223372036854775807) (i: -9223372036854775808≤d∧d≤9223372036854775807) (j: -9223372036854775808≤e∧e≤9223372036854775807):
  Calls Tryz.prog 9 #[.pointer (some ⟨l,0,none⟩),.agg #[.int .i64 a,.int .i64 d,.int .i64 e]] w (jd E own m l c w p o g):=by
 have y:=cO a (n:=12) (by decide)
 by_cases q:cx a 12≤5
 ·exact BK b h k a d e f i j q
 by_cases r:cx a 12=6
 ·exact BH b h k a d e f i j r
 by_cases s:cx a 12=7
 ·exact BL b h k a d e f i j s
 by_cases t:cx a 12=8
 ·exact BI b h k a d e f i j t
 by_cases u:cx a 12=9∨cx a 12=10
 ·exact DW b h k a d e f i j u
 ·exact BJ b h k a d e f i j (by omega)
def jg (l:List (Int×Int×Int)):List Value:=l.flatMap fun x=>[.int .i64 x.1,.int .i64 x.2.1,.int .i64 x.2.2]
theorem pf (l:List (Int×Int×Int)) (k i:Nat) (h:k < l.length) (a:i < 3):(jg l)[k * 3+i]? =[Value.int .i64 l[k].1,.int .i64 l[k].2.1,.int .i64 l[k].2.2][i]? :=by
 induction l generalizing k with
 | nil=>simp at h
 | cons x l ih=>
  show ([Value.int .i64 x.1,.int .i64 x.2.1,.int .i64 x.2.2]++jg l)[k * 3+i]? =_
  cases k with
  | zero=>
   rw [List.getElem?_append_left (by simp;omega)];simp
  | succ k=>
   rw [List.getElem?_append_right (by simp;omega),show (k+1) * 3+i - [Value.int .i64 x.1,.int .i64 x.2.1,.int .i64 x.2.2].length=k * 3+i by simp;omega]
   exact ih k (by simpa using h)
def jE (n:Int):Prop:= -9223372036854775808≤n∧n≤9223372036854775807
def GI (l:List (Int×Int×Int)):Prop:=l.length≤9223372036854775806∧∀x∈l,jE x.1∧jE x.2.1∧jE x.2.2
def GW (base:Nat) (E:Nat→Prop) (pp gb:Nat) (c:bT) (g:GS) (w:World):Prop:=∃own vS vM sl ml,gL E own pp gb c w vS vM sl ml g∧∀k,k=pp∨own k∨fM gb vS vM k→base≤k
theorem GW.to {a:Nat} {E own:Nat→Prop} {i f:Nat} {c:bT} {o:GS} {w n:World} {q p:Value} (d:∀k,k=i∨own k∨fM f q p k→a≤k) (u:a≤w.heap.size) (h:cY E own i f c w q p o n):GW a E i f c o n∧Below a w n:=by
 obtain ⟨b,m,l,j,g,r,s,t⟩:=h;refine ⟨⟨b,m,l,j,g,r,fun k e=>?_⟩,t.toBelow (fun k e=>d k e) u⟩
 rcases e with e | e
 ·exact d k (.inl e)
 ·rcases s k e with x | x | x
  ·exact d k (.inr (.inl x))
  ·exact d k (.inr (.inr x))
  ·omega
theorem GW.below {base:Nat} {E:Nat→Prop} {b a:Nat} {c:bT} {g:GS} {w d:World} (h:GW base E b a c g w) (i:Below w.heap.size w d):GW base E b a c g d:=by
 obtain ⟨own,m,l,k,j,e,f⟩:=h;exact ⟨own,m,l,k,j,e.below i,f⟩
theorem BG {w:World} {v:Value} {l:List (Int×Int×Int)} (h:aZ w v l.length 3 (jg l)):∃a d,v= .slice a l.length d∧∀k (n:k < l.length),∃b o,a=some ⟨b,o,none⟩∧b < w.heap.size∧w.cell? ⟨b,o+k * 3,none⟩=some (.int .i64 l[k].1)∧w.cell? ⟨b,o+k * 3+1,none⟩=some (.int .i64 l[k].2.1)∧w.cell? ⟨b,o+k * 3+2,none⟩=some (.int .i64 l[k].2.2):=by
 obtain ⟨a,d,e,s⟩:=h.shape;refine ⟨a,d,e,fun k n=>?_⟩
 have c:∀i,i < 3→∃b o,a=some ⟨b,o,none⟩∧b < w.heap.size∧w.cell? ⟨b,o+k * 3+i,none⟩=[Value.int .i64 l[k].1,.int .i64 l[k].2.1,.int .i64 l[k].2.2][i]? :=fun i g=>by
  obtain ⟨b,p,e,m,h⟩:=s k i n g;exact ⟨b,p,e,m,by rw [Nat.add_assoc,h,pf l k i n g]⟩
 obtain ⟨b,o,q,m,u⟩:=c 0 (by omega)
 have j:∀i,i < 3→w.cell? ⟨b,o+k * 3+i,none⟩=[Value.int .i64 l[k].1,.int .i64 l[k].2.1,.int .i64 l[k].2.2][i]? :=fun i g=>by
  obtain ⟨t,r,f,_,h⟩:=c i g;rw [q] at f;injection f with e;injection e with e1 e2;subst e1 e2;exact h
 exact ⟨b,o,q,m,j 0 (by omega),j 1 (by omega),j 2 (by omega)⟩
theorem qX (x y z:Int) (l:List (Int×Int×Int)) (v:Value) (w:World) (hg:iu w) (hx:jE x) (hy:jE y) (hz:jE z) (hr:aZ w v l.length 3 (jg l)) (hl:GI l):
  Calls Tryz.prog 3 #[.int .i64 x,.int .i64 y,.int .i64 z,v] w fun e w'=>e= .returned (.bool true)∧Below w.heap.size w w':=by
 have H1:=Lib.hid (xE x y z w hx hy hz);obtain ⟨a,ea⟩:∃a,cx x 10=a:=⟨_,rfl⟩;obtain ⟨b,eb⟩:∃b,cx y 1000=b:=⟨_,rfl⟩;obtain ⟨d,ed⟩:∃d,cx z 60=d:=⟨_,rfl⟩;have ba:=cO x (n:=10) (by decide);have bb:=cO y (n:=1000) (by decide);have bd:=cO z (n:=60) (by decide);rw [ea] at ba;rw [eb] at bb;rw [ed] at bd;have e0:kr x y z=dm a b d:=by unfold kr;rw [ea,eb,ed]
 rw [e0] at H1;have F:Hid (∀(vD vN vU vW:Value) (W:World),jD W (dm a b d) vD vN vU vW→iu W→_):=Lib.hid (fun vD vN vU vW W h1 h2=>AH ba bb bd vD vN vU vW W h1 h2);have G:=Lib.hid (DK ba bb bd);obtain ⟨av,cv,rfl,a4⟩:=BG hr;have b2:=Lib.hid a4;have HL:=Lib.hid hl;have HG:=Lib.hid hg;have c9:=hl.1;obtain ⟨c,ec⟩:∃c,dm a b d=c:=⟨_,rfl⟩;rw [ec] at H1 F G;clear hr hl hg a4 ea eb ed e0 ec ba bb bd hx hy hz;go_enter Tryz.func3,Tryz.ntmps3;go_wp2_with fail
 refine H1.out.mono ?_;rintro e w1 ⟨vD,vN,vU,vW,rfl,S,J⟩;have H2:=Lib.hid (F.out vD vN vU vW w1 S (HG.out.below J));have C:=Lib.hid J;clear S J;go_wp2_with fail
 refine H2.out.mono ?_;rintro e w2 ⟨gb,E,own,pp,vS,vM,sl,ml,rfl,R,T,X⟩;have b5:Hid (GW w.heap.size E pp gb c (GQ c) w2):=Lib.hid ⟨own,vS,vM,sl,ml,R,fun k e=>Nat.le_trans C.out.size (T k e)⟩;have a7:=Lib.hid (C.out.trans (X.mono C.out.size));have b1:=Lib.hid (EY G.out);clear R T X H1 H2 F;go_wp2_with fail
 go_loopw [10] (fun i wr=>∃(k:Nat) (g:GS),k≤l.length∧i= .int .i64 k∧Hid (GW w.heap.size E pp gb c g wr)∧Hid (iq g)∧Hid (Below w.heap.size w wr)) (fun i _=>l.length - (intOf i).toNat)
 case atStart=>exact ⟨0,GQ c,Nat.zero_le _,rfl,b5,b1,a7⟩
 case round=>
  obtain ⟨k,g,hk,rfl,b0,a9,P⟩:=hrel
  by_cases a2:k < l.length
  ·have a3:(k:Int) < (l.length:Int):=by omega
   obtain ⟨mb,mo,rfl,M,q0,q1,q2⟩:=b2.out k a2;obtain ⟨i1,i2,i3⟩:=HL.out.2 l[k] (List.getElem_mem a2)
   generalize l[k]=mv at q0 q1 q2 i1 i2 i3
   obtain ⟨kd,nn,vv⟩:=mv;have e0:wr.cell? ⟨mb,mo+k * 3,none⟩=some (.int .i64 kd):=(P.out.cell M).trans q0;have e1:wr.cell? ⟨mb,mo+k * 3+1,none⟩=some (.int .i64 nn):=(P.out.cell M).trans q1;have e2:wr.cell? ⟨mb,mo+k * 3+2,none⟩=some (.int .i64 vv):=(P.out.cell M).trans q2;obtain ⟨own,vS,vM,sl,ml,R,T⟩:=b0.out;have HM:=Lib.hid (uE G.out R a9.out kd nn vv i1 i2 i3);have HS:=Lib.hid T;clear q0 q1 q2 i1 i2 i3 R T;go_wp2_with fail
   refine HM.out.mono ?_;rintro e w3 ⟨rfl,ks,g3,_,_,I,V⟩;obtain ⟨b7,Y⟩:=GW.to HS.out P.out.size V;have B3:Below w.heap.size w w3:=P.out.trans Y;obtain ⟨a5,c5,c4,c3,c2,q,U⟩:=b7;have c0:=q.cells.1;have H:=q.cells.2.2.2.2.1;rw [I.bad] at H;have b8:gb < w3.heap.size:=aA c0;have HQ:=Lib.hid q.post.queue;have p:=Lib.hid q;have b4:=Lib.hid U;have A:=Lib.hid I;have D:=Lib.hid B3;have a6:=Lib.hid H;clear V Y q U I B3 HM H;go_wp2_with fail
   refine HQ.out.mono ?_;rintro e w4 ⟨vq,f,rfl,O,N,K⟩;have c8:w4.cell? ⟨gb,13,none⟩=some (.bool false):=(K.cell b8).trans a6.out;have Q:=Lib.hid O;have b3:=Lib.hid N;have u:=Lib.hid K;obtain ⟨aq,cq,b6⟩:=aE (aC O.row);subst b6
   have d0:f.length≤1048576:=by
    have h1:f.length=(ji g3.S.items).length:=by rw [←N,List.length_map]
    have h2:(ji g3.S.items).length≤g3.S.items.length:=by
     unfold ji;have:=List.length_filter_le (fun m:aR=> !m.tos.isEmpty) (g3.S.items.map fE.now);rw [List.length_map] at this;exact this
    have h3:=p.out.post.sok.led.items;have h3:g3.S.items.length≤1000000:=h3;omega
   clear O N K;go_wp2_with fail
   go_loopw [13] (fun i c6=>∃j:Nat,j≤f.length∧i= .int .i64 j∧Hid (Below w4.heap.size w4 c6)) (fun i _=>f.length - (intOf i).toNat)
   case atStart=>exact ⟨0,Nat.zero_le _,rfl,Lib.hid (Below.refl _ _)⟩
   case round=>
    obtain ⟨j,hj,rfl,o⟩:=hrel
    by_cases L:j < f.length
    ·have a0:(j:Int) < (f.length:Int):=by omega
     have a1:j < (f.map gI).length:=by rw [List.length_map];exact L
     obtain ⟨B,h⟩:∃B,aq=some ⟨B,0,none⟩∧B < w4.heap.size∧∀i,i < 5→w4.cell? ⟨B,j * 5+i,none⟩=(aV f[j].1 (gI f[j]).2)[i]? :=by
      rcases Q.out.row.2 with ⟨_,h0⟩ | ⟨g',cp,c7,e,_,hg,_,_,_,c1⟩
      ·omega
      ·injection e with e1 _ _;refine ⟨g',e1,ah hg,fun i hi=>?_⟩;rw [Lib.cell_of_heap hg,←Array.getElem?_toList,←List.getElem?_take_of_lt (show j * 5+i < f.length * 5 by omega),c1,la _ _ _ a1 hi,List.getElem_map];rfl
     obtain ⟨rfl,s,h⟩:=h;have hm:f[j].1∈ji g3.S.items:=by rw [←b3.out];exact List.mem_map_of_mem (List.getElem_mem L)
     have t:=aC (Q.out.tos f[j] (List.getElem_mem L));obtain ⟨t1,t2,t3⟩:=Hs A.out p.out.post.sok.ok hm;obtain ⟨⟨m,gq⟩,em⟩:∃r,f[j]=r:=⟨_,rfl⟩;rw [em] at h t t1 t2 t3;have p0:wr.cell? ⟨B,j * 5,none⟩=some (.int .i64 m.id):=(o.out.cell s).trans (h 0 (by decide));have p1:wr.cell? ⟨B,j * 5+1,none⟩=some (.int .i64 m.time):=(o.out.cell s).trans (h 1 (by decide));have p2:wr.cell? ⟨B,j * 5+2,none⟩=some (.string (bs m.frm)):=(o.out.cell s).trans (h 2 (by decide));have p3:wr.cell? ⟨B,j * 5+3,none⟩=some (.slice (some ⟨gq,0,none⟩) m.tos.length m.tos.length):=(o.out.cell s).trans (h 3 (by decide));have p4:wr.cell? ⟨B,j * 5+4,none⟩=some (.string (bs m.body)):=(o.out.cell s).trans (h 4 (by decide));have AR:=(p.out.below u.out).below o.out;have HT:=Lib.hid (xF AR (by rw [AR.mlen];have h1:=A.out.more;have h2:g3.S.items.length≤1000000:=p.out.post.sok.led.items;omega) A.out.tos m (.slice (some ⟨gq,0,none⟩) m.tos.length m.tos.length) (t.below o.out) t3 t1 t2);clear h t t1 t2 t3 em AR hm a1;go_wp2_with fail
     refine HT.out.mono ?_;rintro e w6 ⟨rfl,Z⟩;have a8:=Lib.hid (o.out.trans (Z.mono o.out.size));clear Z;go_wp2_with fail
     exact ⟨⟨j+1,by omega,by go_num,a8⟩,by simp [intOf];omega⟩
    ·have a0:¬(j:Int) < (f.length:Int):=by omega
     go_wp2_with fail
     exact ⟨⟨k+1,g3,by omega,by go_num,Lib.hid ⟨a5,c5,c4,c3,c2,(p.out.below u.out).below o.out,b4.out⟩,A,Lib.hid ((D.out.trans (u.out.mono D.out.size)).trans (o.out.mono (Nat.le_trans D.out.size u.out.size)))⟩,by simp [intOf];omega⟩
  ·have a3:¬(k:Int) < (l.length:Int):=by omega
   go_wp2_with fail
   go_ret;exact ⟨rfl,P.out⟩
open Go.ChangeShapes Go.WideShapes Go.RowKit Go.Deep
section
variable {H:Type} {enc:TypeId×Value→H} {w:World} {base:Nat} {spare:Nat→Bool} {held:Bool}
theorem kL {n:Int} (h:(Lit.int .i64 n).wf=true):jE n:=by
 simp only [Lit.wf,Bool.and_eq_true,decide_eq_true_eq] at h;exact h
theorem sr:Tryz.prog.cellsOf 34=3:=by kernel_rfl
theorem AJ:Tryz.prog.bytesOf 34=24:=by kernel_rfl
theorem H6 {α:Type} {l:List α} (h:l.length=3):∃a b c,l=[a,b,c]:=by
 match l,h with
 | [a,b,c],_=>exact ⟨a,b,c,rfl⟩
theorem D8 {a:Nat} {f:List Value} {x:DataW H×List MemPlace} (h:DataW.trod enc Tryz.prog w base spare held a 34 f=some x):
  ∃o:Int×Int×Int,f=[.int .i64 o.1,.int .i64 o.2.1,.int .i64 o.2.2]∧jE o.1∧jE o.2.1∧jE o.2.2:=by
 obtain ⟨A,n,_,rfl,l,m,e⟩:=DataW.trod_struct Tryz.underlying34 h;rw [sr] at l;obtain ⟨b,c,d,rfl⟩:=H6 l;obtain ⟨v,y,z,rfl⟩:=H6 m;have k:DataW.trod enc Tryz.prog w base spare held n 3 (([b,c,d].drop 0).take (Tryz.prog.cellsOf 3))=some v:=e 0 _ rfl;have g1:DataW.trod enc Tryz.prog w base spare held n 3 (([b,c,d].drop 1).take (Tryz.prog.cellsOf 3))=some y:=e 1 _ rfl;have g2:DataW.trod enc Tryz.prog w base spare held n 3 (([b,c,d].drop 2).take (Tryz.prog.cellsOf 3))=some z:=e 2 _ rfl;simp only [Dh,List.drop_zero,List.drop_succ_cons,List.take_succ_cons,List.take_zero] at k g1 g2;obtain ⟨p,g,_,s⟩:=DataW.trod_int Tryz.underlying3 k;obtain ⟨q,i,_,t⟩:=DataW.trod_int Tryz.underlying3 g1;obtain ⟨r,j,_,u⟩:=DataW.trod_int Tryz.underlying3 g2;simp only [List.cons.injEq,and_true] at g i j;exact ⟨(p,q,r),by rw [g,i,j],kL s,kL t,kL u⟩
theorem FP (l:List (Int×Int×Int)):(jg l).length=l.length * 3:=by
 induction l with
 | nil=>rfl
 | cons x l ih=>
  show ([Value.int .i64 x.1,.int .i64 x.2.1,.int .i64 x.2.2]++jg l).length=_;rw [List.length_append,ih,List.length_cons];simp only [List.length_cons,List.length_nil];omega
theorem BR {f:Nat} {s:List Value} {x:DataW H×List MemPlace} (h:DataW.trod enc Tryz.prog w base spare held f 22 s=some x) (J:(x.1.weights Tryz.prog 22).all (·≤reachBytes)=true):
  ∃(v:Value) (l:List (Int×Int×Int)),s=[v]∧aZ w v l.length 3 (jg l)∧l.length * 24≤140737488351232∧∀o∈l,jE o.1∧jE o.2.1∧jE o.2.2:=by
 rcases open_slice Tryz.underlying22 h with ⟨rfl,rfl⟩ | ⟨a,b,B,m,n,D,K,rfl,_,F,L,q,rfl,I⟩
 ·exact ⟨_,[],rfl,⟨rfl,.inl ⟨rfl,_,_,rfl⟩⟩,by decide,fun _ h=>by cases h⟩
 ·have G:b≤m:=by rw [q];split <;> omega
  have A:=xV Tryz.underlying22 J;simp only [List.length_map,List.length_range,AJ] at A
  have d:∀i,i < b→∃o:Int×Int×Int,(∀j,j < 3→w.cell? (a.add (i * 3+j))=[Value.int .i64 o.1,.int .i64 o.2.1,.int .i64 o.2.2][j]?)∧jE o.1∧jE o.2.1∧jE o.2.2:=fun i g=>by
   obtain ⟨C,t,E⟩:=I i (by omega);obtain ⟨o,e,r⟩:=D8 E;rw [sr] at t;obtain ⟨_,_,c⟩:=World.cells?_some t;refine ⟨o,fun j y=>?_,r⟩;have:=c j y;rw [add_add] at this;rw [this,e]
  obtain ⟨S,u⟩:=choose_lt d;have p:((List.range b).map S).length=b:=by simp
  refine ⟨_,(List.range b).map S,rfl,?_,by rw [p];exact A,fun o r=>?_⟩
  ·rw [p];refine IA (by decide) (by rw [FP,p]) F fun j y=>?_;obtain ⟨k,i,z,g,rfl⟩:∃k i,k < b∧i < 3∧j=k * 3+i:=⟨j / 3,j % 3,by omega,by omega,by omega⟩
   rw [(u k z).1 i g,pf _ k i (by rw [p];exact z) g];simp
  ·obtain ⟨i,g,rfl⟩:=List.mem_map.1 r;exact (u i (List.mem_range.1 g)).2
end
theorem FF:(Rows.laid_internal_strconv_uint64pow10:DataW Unit)=Lib.tabData .u64 Lib.pow10Tab:=by kernel_rfl
theorem Bu:Rows.laid_unicode_utf8_first=Lib.firstData:=by kernel_rfl
theorem zx:(Rows.laid_unicode_utf8_acceptRanges:DataW Unit)=Lib.acceptData:=by kernel_rfl
theorem su:Tryz.prog.cellsOf 5=1:=by kernel_rfl
theorem so:Tryz.prog.cellsOf 313=2:=by kernel_rfl
theorem Bi:Tryz.prog.globalNamed "unicode/utf8.first"=some 2:=by kernel_rfl
theorem Fl:Tryz.prog.globalNamed "unicode/utf8.acceptRanges"=some 3:=by kernel_rfl
theorem Fm:Tryz.prog.globalNamed "internal/strconv.uint64pow10"=some 6:=by kernel_rfl
theorem Cw:(Tryz.prog.globals[2]?).map (·.type)=some 311:=by kernel_rfl
theorem GA:(Tryz.prog.globals[3]?).map (·.type)=some 314:=by kernel_rfl
theorem GB:(Tryz.prog.globals[6]?).map (·.type)=some 331:=by kernel_rfl
theorem Du {W:World} {b:List (String×DataW Unit)} (h:laidMet Tryz.prog b W) (F:("internal/strconv.uint64pow10",Rows.laid_internal_strconv_uint64pow10)∈b) (G:("unicode/utf8.acceptRanges",Rows.laid_unicode_utf8_acceptRanges)∈b) (I:("unicode/utf8.first",Rows.laid_unicode_utf8_first)∈b) (u:W.ShapedOpen Tryz.prog):iu W:=by
 have B:Lib.VarReads Tryz.prog W "internal/strconv.uint64pow10" Rows.laid_internal_strconv_uint64pow10:=Lib.laidMet.reads h F;have C:Lib.VarReads Tryz.prog W "unicode/utf8.acceptRanges" Rows.laid_unicode_utf8_acceptRanges:=Lib.laidMet.reads h G;have D:Lib.VarReads Tryz.prog W "unicode/utf8.first" Rows.laid_unicode_utf8_first:=Lib.laidMet.reads h I
 rw [FF] at B;rw [zx] at C;rw [Bu] at D;refine ⟨zF u,?_,?_,?_⟩
 ·obtain ⟨g,t,v,m,p,n,e,a,o⟩:=B;obtain rfl:=Option.some.inj (Fm.symm.trans n);obtain rfl:=Option.some.inj (GB.symm.trans e);unfold rR Lib.TabIs;rw [a,←Lib.cells_of_tab Tryz.underlying331 Tryz.underlying248 (by kernel_rfl) (by kernel_rfl) o]
 ·intro c E;obtain ⟨g,t,v,m,p,n,e,a,o⟩:=D;obtain rfl:=Option.some.inj (Bi.symm.trans n);obtain rfl:=Option.some.inj (Cw.symm.trans e);have k:=Lib.cells_of_tab Tryz.underlying311 Tryz.underlying5 su (by kernel_rfl) o;have:=World.var?_cell n a c;rw [this,←Array.getElem?_toList,k];simp [Lib.firstTab,E]
 ·intro i A;obtain ⟨g,t,v,m,p,n,e,a,o⟩:=C;obtain rfl:=Option.some.inj (Fl.symm.trans n);obtain rfl:=Option.some.inj (GA.symm.trans e);obtain ⟨s,d,q,r,z⟩:=Lib.array_elem Tryz.underlying314 o i A;simp only [List.getElem?_map,List.getElem?_range A,Option.map_some,Option.some.injEq] at r;subst r;rw [so] at z
  have k:=Lib.ints_of_struct Tryz.underlying313 (fun j f l=>by
   match j,l with
   | 0,l=>simp at l;subst l;exact ⟨Tryz.underlying5,rfl,su⟩
   | 1,l=>simp at l;subst l;exact ⟨Tryz.underlying5,rfl,su⟩
   | j+2,l=>simp at l) (by rw [so];rfl) z
  have x:=congrArg (·[0]?) k;have y:=congrArg (·[1]?) k;simp only [List.getElem?_take,List.getElem?_drop] at x y
  constructor
  ·rw [World.var?_cell n a (2 * i),←Array.getElem?_toList];simpa [Nat.mul_comm] using x
  ·rw [World.var?_cell n a (2 * i+1),←Array.getElem?_toList];simpa [Nat.mul_comm] using y
open Go.ChangeShapes Go.WideShapes Go.ChangeAt Go.RowKit
theorem G7:laidOutB Tryz.prog=true:=by kernel_rfl
theorem nz:(Rows.guardedRow.laid.all fun x=>x.2.handleName?.isNone)=true:=by kernel_rfl
theorem Bj:("internal/strconv.uint64pow10",Rows.laid_internal_strconv_uint64pow10)∈Rows.guardedRow.laid:=List.Mem.tail _ (List.Mem.tail _ (List.Mem.head _))
theorem Bk:("unicode/utf8.acceptRanges",Rows.laid_unicode_utf8_acceptRanges)∈Rows.guardedRow.laid:=List.Mem.tail _ (List.Mem.tail _ (List.Mem.tail _ (List.Mem.head _)))
theorem Bl:("unicode/utf8.first",Rows.laid_unicode_utf8_first)∈Rows.guardedRow.laid:=List.Mem.tail _ (List.Mem.tail _ (List.Mem.tail _ (List.Mem.tail _ (List.Mem.tail _ (List.Mem.tail _ (List.Mem.tail _ (List.Mem.tail _ (List.Mem.tail _ (List.Mem.head _)))))))))
theorem sG (u:Os) (i:u.Started) (H:Type) (d:TypeId×Value→H):
  ReturnsInHanded {} Tryz.checked u 3 .any (fun w b=>(Rows.guardedSpec.pre d Tryz.prog Tryz.f3 [] false w b∧laidMetH Tryz.prog Rows.guardedRow.laid w)∧sizedMet d Tryz.prog Tryz.f3 (OpenSpec.ofChange Rows.guardedSpec) false w b)
   (Rows.guardedSpec.post d Tryz.prog Tryz.f3 false true false false):=by
 refine oj (C:=Tryz.checked) (X:=fun w _=>laidMetH Tryz.prog Rows.guardedRow.laid w) (fun _ _ _ Z h=>h.of_heap Z) own i (by kernel_rfl) Tryz.func3
  (ChangeSpec.witness_shaped (enc:=d) (C:=Tryz.checked) (os:=u) (X:=fun w _=>laidMetH Tryz.prog Rows.guardedRow.laid w) false (World.laidAll Tryz.prog u Rows.guardedRow.laid) #[.int .i64 0,.int .i64 0,.int .i64 0,.slice none 0 0] 8 (World.laidAll_os _ _ _)
   (World.shaped_of_ZipB (by kernel_rfl) (by kernel_rfl)) (by kernel_rfl) (by kernel_rfl) (by kernel_rfl)
   (by rw [MakeChecks.laidMetH_plain _ _ _ nz];exact laidMet_laidAll _ (by kernel_rfl) (by kernel_rfl))) ?_
 intro W m b P gs A g L _ G f F;rw [MakeChecks.laidMetH_plain _ _ _ nz] at f;have c:∀(j:Nat) t v,Tryz.f3.params[j]? =some t→b[j]? =some v→Value.okWide Tryz.prog W .any m t v:=g;have k:=L;obtain ⟨p,q,o,U,rfl,_,_⟩:=L;have K:DataW.TrodAll d Tryz.prog W 0 (fun _=>true) true Tryz.f3.params.toList b.toList P p:=o;rw [Tryz.params3] at K c;obtain ⟨v0,v1,v2,v3,d0,d1,d2,d3,p0,p1,p2,p3,rfl,rfl,rfl,Q,R,S,J⟩:=trodAll_four K;obtain ⟨rfl,rfl⟩:=trodVars_none U;obtain ⟨x,rfl,rfl,rfl,M⟩:=open_int Tryz.underlying3 (c 0 3 v0 rfl rfl) Q;obtain ⟨y,rfl,rfl,rfl,N⟩:=open_int Tryz.underlying3 (c 1 3 v1 rfl rfl) R;obtain ⟨z,rfl,rfl,rfl,O⟩:=open_int Tryz.underlying3 (c 2 3 v2 rfl rfl) S;have B:=J;have E:∀x∈p3,x.block < W.heap.size:=fun x hx=>k.lt x (by simp [hx]);obtain ⟨a,s,n,rfl⟩:=okWide_slice Tryz.underlying22 (c 3 22 v3 rfl rfl);obtain ⟨I,T⟩:=J;obtain ⟨v,l,V,r,a0,D⟩:=BR T (yY G (j:=3) rfl rfl)
 have hv:Value.slice a s n=v:=by
  have e:[Value.slice a s n]=[v]:=V;exact List.cons.inj e |>.1
 subst hv;have Y:=Du f Bj Bk Bl F;clear o g;refine (qX x y z l _ W Y (kL M) (kL N) (kL O) r ⟨by omega,D⟩).mono fun e W' ⟨he,hb⟩=>?_;subst he;simp only [List.append_nil,List.nil_append] at k;exact ⟨_,rfl,_,_,_,[],_,[],k,trodAll_mk1 (shut_bool Tryz.underlying4 _),trodAll_mk4 (shut_int Tryz.underlying3 M) (shut_int Tryz.underlying3 N) (shut_int Tryz.underlying3 O) (Below.trod G7 (by kernel_rfl) (of_decide_eq_true (by kernel_rfl)) B hb E),rfl,hb.frame _,fun h=>by cases h⟩
end Go.Proofs.YtofpegbpgkkgkaaGreatDoor
