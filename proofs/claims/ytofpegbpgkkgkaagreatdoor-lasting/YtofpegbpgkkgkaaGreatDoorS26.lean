import Derived.Test.YtofpegbpgkkgkaaGreatDoorS24
import Derived.Test.YtofpegbpgkkgkaaGreatDoorS25
import Derived.Test.YtofpegbpgkkgkaaGreatDoorS23
import Derived.Carry
import Derived.SevenTiedAt
import Derived.Stop.Joined
namespace Go.Proofs.YtofpegbpgkkgkaaGreatDoor
set_option maxHeartbeats 8000000
set_option maxRecDepth 1000000
open Go.RowKit
theorem wN {E own:Nat→Prop} {m l:Nat} {c:bX} {w:World} {p o:Value} {x:List (ca×Value)} {v:List (aX×Value)} {g:GS} (b:dX c) (h:gX E own m l c w p o x v g) (k:hJ g) (a d e:Int) (f: -9223372036854775808≤a∧a≤9223372036854775807) (i: -9223372036854775808≤d∧d≤9223372036854775807) (j: -9223372036854775808≤e∧e≤9223372036854775807):
  Calls Tryz.prog 9 #[.pointer (some ⟨l,0,none⟩),.agg #[.int .i64 a,.int .i64 d,.int .i64 e]] w (jG E own m l c w p o g):=by
 have y:=dt a (n:=12) (by decide)
 by_cases q:cM a 12≤5
 ·exact Di b h k a d e f i j q
 by_cases r:cM a 12=6
 ·exact Df b h k a d e f i j r
 by_cases s:cM a 12=7
 ·exact Dj b h k a d e f i j s
 by_cases t:cM a 12=8
 ·exact Dg b h k a d e f i j t
 by_cases u:cM a 12=9∨cM a 12=10
 ·exact Ft b h k a d e f i j u
 ·exact Dh b h k a d e f i j (by omega)
def zQ (base:Nat) (E:Nat→Prop) (pp gb:Nat) (c:bX) (g:GS) (n:Nat) (w:World) (e:Ending) (w':World):Prop:=
 e= .returned (.tuple #[])∧∃k g',k≤9 * n∧fy c k g g'∧hJ g'∧GW base E pp gb c g' w'∧Below base w w'
theorem pU {a:Nat} {E:Nat→Prop} {Q C:Nat} {c:bX} {g:GS} {w:World} (y:dX c) (X:GW a E Q C c g w) (hb:a≤w.heap.size) (Y:hJ g) (l:List (Int×Int×Int)) (v:Value) {D:World} (Z:bg D v l.length 3 (iA l)) (U:Below D.heap.size D w) (hz:D.heap.size≤a) (K:yu l):
  Calls Tryz.prog 12 #[.pointer (some ⟨C,0,none⟩),v] w (zQ a E Q C c g l.length w):=by
 obtain ⟨av,cv,rfl,B⟩:=De Z;have I:=Lib.hid B;have h:=Lib.hid U;have HL:=Lib.hid K;have a1:=K.1;have HW:=Lib.hid X;have HI:=Lib.hid Y;have G:=Lib.hid y;clear Z U K B X Y y;go_enter Tryz.func12,Tryz.ntmps12;go_wp2_with fail
 go_loopw [4] (fun i wr=>∃(k s:Nat) (q:GS),k≤l.length∧s≤9 * k∧i= .int .i64 k∧Hid (fy c s g q)∧Hid (GW a E Q C c q wr)∧Hid (hJ q)∧Hid (Below a w wr)) (fun i _=>l.length - (intOf i).toNat)
 case atStart=>exact ⟨0,0,g,Nat.zero_le _,Nat.zero_le _,rfl,Lib.hid (.nil g),HW,HI,Lib.hid (Below.refl _ _)⟩
 case round=>
  obtain ⟨k,s,q,hk,hs,rfl,o,n,m,j⟩:=hrel
  by_cases z:k < l.length
  ·have A:(k:Int) < (l.length:Int):=by omega
   obtain ⟨O,P,rfl,d,R,S,T⟩:=I.out k z;have b:=Nat.lt_of_lt_of_le d hz;obtain ⟨L,M,N⟩:=HL.out.2 l[k] (List.getElem_mem z)
   generalize l[k]=mv at R S T L M N
   obtain ⟨kd,nn,vv⟩:=mv;have e0:wr.cell? ⟨O,P+k * 3,none⟩=some (.int .i64 kd):=(j.out.cell b).trans ((h.out.cell d).trans R);have e1:wr.cell? ⟨O,P+k * 3+1,none⟩=some (.int .i64 nn):=(j.out.cell b).trans ((h.out.cell d).trans S);have e2:wr.cell? ⟨O,P+k * 3+2,none⟩=some (.int .i64 vv):=(j.out.cell b).trans ((h.out.cell d).trans T);obtain ⟨own,vS,vM,sl,ml,V,W⟩:=n.out;have HM:=Lib.hid (wN G.out V m.out kd nn vv L M N);have HS:=Lib.hid W;clear R S T L M N V W;go_wp2_with fail
   refine HM.out.mono ?_;rintro e w3 ⟨rfl,ks,g3,a0,f,r,t⟩;obtain ⟨u,x⟩:=GW.to HS.out (Nat.le_trans hb j.out.size) t;have J:=Lib.hid u;have H:=Lib.hid r;have F:=Lib.hid (j.out.trans x);have p:=Lib.hid (o.out.trans f);clear t x u r f;go_wp2_with fail
   exact ⟨⟨k+1,s+ks,g3,by omega,by omega,by go_num,p,J,H,F⟩,by simp [intOf];omega⟩
  ·have A:¬(k:Int) < (l.length:Int):=by omega
   go_wp2_with fail
   refine bodyPost_end (results_none rfl _ _ _) rfl ?_;exact ⟨rfl,s,q,by omega,o.out,m.out,n.out,j.out⟩
theorem rT {S:aa} (x:fH) (T:Nat) {i:Nat} (h:i < S.items.length):(⟨S.items++[x],T⟩:aa).mailOf i=S.mailOf i:=by
 unfold aa.mailOf;rw [List.getElem?_append_left h]
theorem zC {S a:aa} {l:List UInt8} (h:S.takes l=some a) {i:Nat} (b:i < S.items.length):a.mailOf i=S.mailOf i:=by
 have d:∀(S:aa) (m:aX) (c:List Nat) (T:Nat),i < S.items.length→(S.failed m c T).mailOf i=S.mailOf i:=fun S m c T h=>by
  unfold aa.failed
  split
  ·rfl
  ·exact rT _ _ h
 rw [mj] at h
 split at h
 ·unfold aa.takesM at h
  split at h
  ·injection h with h;rw [←h];exact rT _ _ b
  ·cases h
 ·split at h
  ·unfold aa.takesG at h
   split at h
   ·injection h with h;rw [←h,ez]
   ·cases h
  ·split at h
   ·unfold aa.takesF at h
    split at h
    ·injection h with h;rw [←h,d _ _ _ _ (by unfold aa.outs;rw [List.length_modify];exact b),ez]
    ·cases h
   ·cases h
theorem qq {i:Nat}:∀(f:Nat) (S:aa) (k:Nat) (l:List UInt8),i < S.items.length→(dz f S k l).1.mailOf i=S.mailOf i
 | 0,S,k,l,_=>rfl
 | f+1,S,k,l,h=>by
  cases b:ji l with
  | none=>rw [gP b]
  | some c=>
   cases a:S.takes c.1 with
   | none=>rw [jf b a]
   | some S'=>rw [fP b a,qq f S' _ _ (Nat.lt_of_lt_of_le h (BR a)),zC a h]
theorem FJ {s:List UInt8} (b:(bw s).2=s.length) (x:List UInt8):s.length≤(bw (s++x)).2∧(bw (s++x)).2≤(s++x).length∧∀i,i < (bw s).1.items.length→(bw (s++x)).1.mailOf i=(bw s).1.mailOf i:=by
 obtain ⟨g,g1,g2⟩:=qV (s.length+1) ⟨[],0⟩ 0 s x ((s++x).length+1) (by rw [Nat.zero_add];exact b) (by omega) (by omega);have e:bw (s++x)=dz g (bw s).1 (0+s.length) x:=g2;refine ⟨?_,(FH _).2.1,fun i a=>?_⟩
 ·rw [e];have:=ve g (bw s).1 (0+s.length) x;omega
 ·rw [e];exact qq _ _ _ _ a
section
variable {g:GS}
theorem Hh (h:KX ((ie g).S,(ie g).recs)) (x:List UInt8) (n:(bw ((ie g).recs++x)).1.Ok):
  (ie g).recs.length≤(bw ((ie g).recs++x)).2∧(bw ((ie g).recs++x)).2≤((ie g).recs++x).length∧
  (∀m∈gA (bw ((ie g).recs++x)).1.items,m.id=g.S.items.length+1→m.tos=[de]∧m.body=nj∧m.frm=fK)∧
  ((∀m∈gA (bw ((ie g).recs++x)).1.items,m.id≠g.S.items.length+1)→(ie g).recs.length < (bw ((ie g).recs++x)).2):=by
 have o:(bw (ie g).recs).2=(ie g).recs.length:=h.whole;obtain ⟨a,b,c⟩:=FJ o x;have d:(ie g).S.items=(bw (ie g).recs).1.items:=h.items;have f:(ie g).S.items.length=g.S.items.length+1:=dv ..
 have l:(bw (ie g).recs).1.mailOf g.S.items.length=ju g.S:=by
  have e:(bw (ie g).recs).1.mailOf g.S.items.length=(ie g).S.mailOf g.S.items.length:=by unfold aa.mailOf;rw [d]
  rw [e];exact dN _ _
 refine ⟨a,b,fun m z e=>?_,fun r=>?_⟩
 ·obtain ⟨i,A,B,s,u,j,C,p,_⟩:=uZ n z;obtain rfl:i=g.S.items.length:=by omega
  rw [c _ (by rw [←d,f];omega),l] at s u j p;refine ⟨?_,u,s⟩;have j:∀t∈m.tos,t∈[de]:=j;have p:m.tos.length≤1:=p;obtain ⟨t,w⟩:=List.length_eq_one_iff.1 (by omega:m.tos.length=1);rw [w] at j ⊢;rw [List.mem_singleton.1 (j t (List.mem_singleton.2 rfl))]
 ·rcases Nat.lt_or_ge (ie g).recs.length (bw ((ie g).recs++x)).2 with k | y
  ·exact k
  ·exfalso;have v:(bw ((ie g).recs++x)).2=(ie g).recs.length:=by omega
   have q:=Dv ((ie g).recs++x);rw [v,List.take_left] at q;rw [←q,←d] at r;refine r (fH.now ⟨ju g.S,List.replicate (ju g.S).tos.length false⟩) ?_ rfl;unfold gA;refine List.mem_filter.2 ⟨List.mem_map_of_mem ?_,rfl⟩;show _∈g.S.items++[_];exact List.mem_append.2 (.inr (List.mem_singleton.2 rfl))
theorem Fi {c:bX} {g:GS} (h:wo c g):(bw g.recs).2=g.recs.length∧(bw g.recs).1.items=g.S.items:=⟨h.kx.whole,h.kx.items.symm⟩
end
def Kr (g:GS) (g6:GS) (F:List UInt8):Prop:=
 (jt gi g.recs (ju g.S)=true∧F=uy (g.S.items.length+1)∧g6={ie g with mails:=g.mails})∨
 (jt gi g.recs (ju g.S)=false∧F=JH∧g6={g with l:=g.l++[some (br gi)],seats:=g.seats++[⟨1,false,false,false,[]⟩],d:=oS g.S g.S g.d})
theorem Hj {E own:Nat→Prop} {j t:Nat} {c:bX} (D:gi=c) {w:World} {A z:Value} {y:List (ca×Value)} {v:List (aX×Value)} {g:GS} {L:Nat} (u:g.l.length=L) (h:gX E own j t c w A z y v {g with l:=g.l++[some (dI c 1)],seats:=g.seats++[⟨1,false,false,false,[]⟩]}):
  ∃F s,Kr g s F∧Calls Tryz.prog 14 #[.pointer (some ⟨j,0,none⟩),.int .i64 (L:Int),.string (bs Jf)] w fun e B=>e= .returned (.tuple #[.string (bs (js (AX F))),.int .i64 0])∧∃b,gX E b j t c B A z y v s∧(∀k,b k→own k∨w.heap.size≤k)∧aH (fun k=>k=j∨own k) w B:=by
 subst D;have G:(g.l++[some (dI gi 1)])[L]? =some (some (dI gi 1)):=by rw [←u,List.getElem?_append_right (Nat.le_refl _),Nat.sub_self];rfl
 have C:iC E own j gi w g.S g.recs (g.l++[some (dI gi 1)]) g.tk g.d:=h.post;have f:=C.recv L G Jf (by decide);have i:∀x:Option bG,(g.l++[some (dI gi 1)]).set L x=g.l++[x]:=fun x=>by rw [←u,List.set_append_right _ _ (Nat.le_refl _),Nat.sub_self];rfl
 rw [Ji g.S g.recs,i] at f
 cases m:jt gi g.recs (ju g.S) with
 | true=>
  rw [m,if_pos rfl] at f;refine ⟨uy (g.S.items.length+1),{ie g with mails:=g.mails},.inl ⟨m,rfl,rfl⟩,f.mono ?_⟩;rintro e H ⟨q,r⟩;refine ⟨?_,?_⟩
  ·rw [q,←uA];rfl
  ·obtain ⟨a,n,o,p⟩:=h.call r rfl;exact ⟨a,n.same rfl,o,p⟩
 | false=>
  rw [m,if_neg (by decide)] at f;refine ⟨JH,{g with l:=g.l++[some (br gi)],seats:=g.seats++[⟨1,false,false,false,[]⟩],d:=oS g.S g.S g.d},.inr ⟨m,rfl,rfl⟩,f.mono ?_⟩;rintro e H ⟨q,r⟩;refine ⟨?_,?_⟩
  ·rw [q,←uA];rfl
  ·obtain ⟨a,n,o,p⟩:=h.call r rfl;exact ⟨a,n.same rfl,o,p⟩
theorem sA (l1 l2:List (Int×Int×Int)) (v1 v2:Value) (O:Int) (w:World) (hg:iR w) (v5:bg w v1 l1.length 3 (iA l1)) (v0:yu l1) (v6:bg w v2 l2.length 3 (iA l2)) (v3:yu l2) (h8:kN O):
  Calls Tryz.prog 4 #[v1,v2,.int .i64 O] w fun e w'=>e= .returned (.bool true)∧Below w.heap.size w w':=by
 have H1:=Lib.hid (zj 3 500 40 w (by decide) (by decide) (by decide));rw [Je] at H1;have d9:Hid (∀(vD vN vU vW:Value) (W:World),jZ W gi vD vN vU vW→iR W→_):=Lib.hid (fun vD vN vU vW W Z h2=>Cl (a:=3) (b:=500) (d:=40) (by decide) (by decide) (by decide) vD vN vU vW W Z h2);have w0:xt gi:=xN zn;have k4:=Lib.hid w0;have X:=Lib.hid ta
 have k1:Hid (∀(x:Bool) (H:Nat) (E:Nat→Prop) (pp gb:Nat) (g:GS) (W:World),GW H E pp gb gi g W→H≤W.heap.size→hJ g→Below w.heap.size w W→w.heap.size≤H→Calls Tryz.prog 12 #[.pointer (some ⟨gb,0,none⟩),if x then v1 else v2] W (zQ H E pp gb gi g (if x then l1.length else l2.length) W)):=Lib.hid fun x H E pp gb g W Z h2 h3 h4 h5=>by
  cases x with
  | true=>exact pU ta Z h2 h3 l1 v1 v5 h4 h5 v0
  | false=>exact pU ta Z h2 h3 l2 v2 v6 h4 h5 v3
 have HG:=Lib.hid hg;have f2:=Lib.hid h8;obtain ⟨c,ec⟩:∃c,gi=c:=⟨_,rfl⟩;have i7:=Lib.hid ec;rw [show dD 3 500 40=c from ec] at d9;rw [ec] at H1 d9 X k1 k4;clear hg h8 v5 v6 v0 v3 w0 ec;go_enter Tryz.func4,Tryz.ntmps4;go_wp2_with fail
 refine H1.out.mono ?_;rintro e u ⟨vD,vN,vU,vW,rfl,a0,t8⟩;obtain ⟨aD,cD,eD⟩:=aE a0.1;obtain ⟨aN,cN,eN⟩:=aE a0.2.1;obtain ⟨aU,cU,eU⟩:=aE a0.2.2.1;obtain ⟨aW,cW,eW⟩:=aE a0.2.2.2;subst eD eN eU eW;have x4:=Lib.hid a0;have m5:=Lib.hid t8;clear a0 t8;go_wp2_with fail
 have xa:=heap_alloc_new u (.cells #[.string c.host,.slice aD c.doms.length cD,.slice aN c.nets.length cN,.slice aU c.users.length cU,.int .i64 c.most,.int .i64 c.size,.slice aW c.waits.length cW,.int .i64 c.life,.int .i64 c.room] 30);have ba:Below u.heap.size u (u.alloc (.cells #[.string c.host,.slice aD c.doms.length cD,.slice aN c.nets.length cN,.slice aU c.users.length cU,.int .i64 c.most,.int .i64 c.size,.slice aW c.waits.length cW,.int .i64 c.life,.int .i64 c.room] 30)):=(Below.refl _ _).alloc (Nat.le_refl _) _;obtain ⟨Wa,t7⟩:∃W:World,u.alloc (.cells #[.string c.host,.slice aD c.doms.length cD,.slice aN c.nets.length cN,.slice aU c.users.length cU,.int .i64 c.most,.int .i64 c.size,.slice aW c.waits.length cW,.int .i64 c.life,.int .i64 c.room] 30)=W:=⟨_,rfl⟩;rw [t7] at xa ba ⊢;have L7:u.heap.size < Wa.heap.size:=ah xa;have p:=Lib.hid (m5.out.trans (ba.mono m5.out.size));have i6:=Lib.hid (x4.out.below ba);have q8:=Lib.hid xa;have H2:=d9.out _ _ _ _ Wa i6.out (HG.out.below p.out);clear xa ba t7 d9 H1;refine H2.mono ?_;rintro e w2 ⟨gb,E,own,pp,vS,vM,sl,ml,rfl,hA,hS,t9⟩;have q6:Hid (GW Wa.heap.size E pp gb c (I5 c) w2):=Lib.hid ⟨own,vS,vM,sl,ml,hA,hS⟩;have f3:Hid (wo c (I5 c)):=Lib.hid ⟨hA.post.sok,fun n s hs=>hA.post.inv hs,(fun t ht=>by cases ht),⟨by kernel_rfl,rfl,Nat.le_of_ble_eq_true (by kernel_rfl),by kernel_rfl⟩⟩
 have n1:=Lib.hid (Gr X.out);have a7:=Lib.hid t9;clear hA hS t9 H2;have j2:=Lib.hid (k1.out true _ E pp gb _ w2 q6.out a7.out.size n1.out (p.out.trans (a7.out.mono p.out.size)) p.out.size);simp only [if_true] at j2;go_wp2_with fail
 refine j2.out.mono ?_;rintro e w3 ⟨rfl,k3,g3,_,i2,s7,C1,u0⟩;have a9:=Lib.hid (f3.out.steps X.out.may i2).1;have i8:=Lib.hid s7;have i4:=Lib.hid u0;obtain ⟨d5,M5,M2,a4,m2,k6,t1⟩:=C1;have c0:=k6.cells.1;have G:=Lib.hid k6;have p6:=Lib.hid t1;clear i2 s7 u0 k6 t1 j2 q6 f3 n1;have d1:=G.out.slen;have i0:=i8.out.len;obtain ⟨r0,s6,B2⟩:=aE (aF G.out.srow);obtain ⟨q9,s5,B0⟩:=aE (aF G.out.mrow);subst B2 B0;have k5:=G.out.cells.2.1
 by_cases hl:g3.l.length < 100
 ·have A3:Hid (a4.length < 100):=Lib.hid (by omega);obtain ⟨L,eL⟩:∃L,g3.l.length=L:=⟨_,rfl⟩;have x6:=Lib.hid eL
  have e3:Hid (Calls Tryz.prog 13 #[.pointer (some ⟨pp,0,none⟩),.int .i64 1] w3 fun e w'=>e= .returned (.tuple #[.int .i64 (L:Int),.string (bs (mX c)),.int .i64 0])∧∃d6,gX E d6 pp gb c w' (.slice r0 a4.length s6) (.slice q9 m2.length s5) a4 m2 {g3 with l:=g3.l++[some (dI c 1)]}∧(∀k,d6 k→d5 k∨w3.heap.size≤k)∧aH (fun k=>k=pp∨d5 k) w3 w'):=Lib.hid (by
   have hh:=G.out.post.conn 1 (by decide) (by decide) hl;rw [eL] at hh;refine hh.mono ?_;rintro e w2 ⟨rfl,C5⟩;obtain ⟨w5,a1,a2,a3⟩:=G.out.call C5 rfl
   exact ⟨rfl,w5,a1,a2,a3⟩)
  clear k5 eL hl d1 i0;go_wp2_with fail
  refine e3.out.mono ?_;rintro e w4 ⟨rfl,d6,a1,a2,a3⟩;have k5:=a1.cells.2.1;obtain ⟨gm,d4,W5,r1,r2,r3,r4,r5,r6⟩:=a1.appS 1 (by have:=A3.out;omega);obtain ⟨F,g6,s8,v9⟩:=Hj i7.out x6.out r4;have d0:=r4.cells.1;have o3:=Lib.hid r1;have A0:=Lib.hid r4;have o4:=Lib.hid r5;have o5:=Lib.hid r6;have x1:=Lib.hid a1;have m3:=Lib.hid a2;have m4:=Lib.hid a3;have p0:=Lib.hid s8;have p5:=Lib.hid v9;clear a1 a2 a3 r1 r4 r5 r6 e3 s8 v9;go_wp2_with (at_builtin;refine bB rfl _ _ 39 rfl _ _ (.slice (some ⟨gm,0,none⟩) (a4.length+1) d4) W5 rfl rfl o3.out ?_)
  refine p5.out.mono ?_;rintro e w6 ⟨rfl,H4,b1,b2,b3⟩;have e9:=Lib.hid b1;have f0:=Lib.hid b2;have f1:=Lib.hid b3
  have t5:cX E d5 pp gb c w3 (.slice r0 a4.length s6) (.slice q9 m2.length s5) g6 w6:=cX.called m3.out m4.out (cX.turned o4.out (fun k e=>by
   rcases e with e | e | e
   ·exact .inl (.inl e)
   ·have e:gm=k:=by simpa [Value.ownBlock] using e
    rw [←e];exact o5.out.imp (fun z=> .inr (.inl z)) id
   ·exact .inl (.inr (.inr e))) (cX.called f0.out f1.out (cX.refl e9.out)))
  obtain ⟨t6,u4⟩:=GW.to p6.out (Nat.le_trans a7.out.size i4.out.size) t5;have A5:=Lib.hid t6;have a8:=Lib.hid ((a7.out.trans i4.out).trans u4)
  have hF:F.length≤19∧(∀x∈F,x≠13)∧kB F≤1000000000000:=by
   have hi:=a9.out.sok.led.items;have hi:g3.S.items.length≤1000000:=hi
   rcases p0.out with ⟨_,e,_⟩ | ⟨_,e,_⟩
   ·rw [e];exact ⟨(xO (by omega)).2,Hd _,by rw [xP];omega⟩
   ·rw [e];exact ⟨by decide,by decide,by decide⟩
  have HF:=Lib.hid hF;clear b1 b2 b3 p5 d0 r2 r3 k5 c0 t5 t6 u4 hF e9 f0 f1 x1 m3 m4 o3 A0 o4 o5 G p6;go_wp2_with fail
  go_loopw [14,15] (fun a b wr=>∃(x:List UInt8) (ls:List (List UInt8)),a= .string (bs x)∧b= .string (bs (js ls))∧Hid (∀y∈ls,∀z∈y,z≠13)∧(js ls).length≤200∧Hid ((x::ls).getLast (List.cons_ne_nil _ _)=F)∧Hid (Below w6.heap.size w6 wr)) (fun _ b _=>IB b)
  case atStart=>
   refine ⟨[],AX F,rfl,rfl,Lib.hid fun y hy=>?_,?_,Lib.hid rfl,Lib.hid (Below.refl _ _)⟩
   ·unfold AX at hy;simp only [List.mem_cons,List.not_mem_nil,or_false] at hy
    rcases hy with rfl | rfl | rfl | rfl | rfl
    ·decide
    ·decide
    ·decide
    ·decide
    ·exact HF.out.2.1
   ·rw [←uA,List.length_append,List.length_append];have:=HF.out.1;have e0:Hc.length=36:=rfl;have e1:([13,10]:List UInt8).length=2:=rfl;omega
  case round=>
   obtain ⟨x,ls,rfl,rfl,n8,C3,n7,V⟩:=hrel
   cases ls with
   | nil=>
    have he:(bs (js [])).toList.isEmpty=true:=by rw [ByteArray.toList_eq,aI];rfl
    have ex:x=F:=n7.out;subst ex;obtain ⟨N,eN⟩:∃N,kB x=N:=⟨_,rfl⟩
    have b5:Hid (∀W:World,Calls Tryz.prog 16 #[.string (bs x)] W fun e w'=>e= .returned (.int .i64 (N:Int))∧W=w'):=Lib.hid fun W=>by
     have:=nh (bs x) W (by rw [aG];have:=HF.out.1;omega) (by rw [aI];exact HF.out.2.2);rw [aI,eN] at this;exact this
    have x8:=Lib.hid eN;have A6:=Lib.hid (A5.out.below V.out);obtain ⟨H5,M6,M3,M0,D2,c2,t2⟩:=A6.out;have c0:=c2.cells.1;have e4:=Lib.hid c2.post.kept;obtain ⟨R,eR⟩:∃R,g6.recs=R:=⟨_,rfl⟩;rw [eR] at e4
    have K7:R.length≤536870912:=by
     have Z:=c2.post.sok.led.len;rw [←eR];have Z:g6.recs.length≤201000000:=Z;omega
    have K8:=aG R;have L6:=aG x;have m9:=Lib.hid eR;have d7:=Lib.hid c2;have A2:=Lib.hid t2;clear c2 t2 eN eR
    rcases p0.out with ⟨hk,ex,eg⟩ | ⟨hk,ex,eg⟩
    ·have q1:((bs x).toList == [52,53,50,32,114,111,111,109])=false:=by
      rw [ByteArray.toList_eq,aI,ex];rfl
     have q2:(((bs x).extract 0 9).toList == [50,53,48,32,107,101,112,116,32])=true:=by rw [ex];exact CU _
     have L3:g3.S.items.length≤1000000:=a9.out.sok.led.items;have h9:(9:Int)≤(x.length:Int):=by rw [ex];have:=(xO (n:=g3.S.items.length+1) (by omega)).1;omega
     have j1:Hid (N=g3.S.items.length+1):=Lib.hid (by rw [←x8.out,ex,xP]);obtain ⟨K1,K3,B1⟩:=aE (aF d7.out.mrow);subst B1;have A9:=d7.out.cells.2.2.1
     obtain ⟨gm,d4,W8,r1,r2,r3,r4⟩:=Jg d7.out (by
      rw [d7.out.mlen,eg];have Z:=i8.out.more;show g3.mails.length≤1048576
      omega) N
     obtain ⟨l0,u6⟩:=GW.to A2.out (Nat.le_trans a8.out.size V.out.size) r4;have e8:({g6 with mails:=g6.mails++[⟨N,0,[],[de],[]⟩]}:GS)=ie g3:=by rw [eg,j1.out];rfl
     rw [e8] at l0;have I2:=Lib.hid hk;have t0:R=(ie g3).recs:=by rw [←m9.out,eg]
     have k2:=Lib.hid t0;obtain ⟨c3,_⟩:=Hg (by rw [i7.out];exact a9.out) hk;rw [i7.out] at c3;have f4:=Lib.hid c3;have n2:=Lib.hid (Jh i8.out);have i5:=Lib.hid ((a8.out.trans (V.out.mono a8.out.size)).trans u6);have k0:=k1.out false _ E pp gb _ _ l0 i5.out.size n2.out (p.out.trans (i5.out.mono p.out.size)) p.out.size;simp only [Bool.false_eq_true,if_false] at k0;have o1:=Lib.hid k0;have o2:=Lib.hid r1;clear hk ex eg k0 l0 u6 r1 r4 e8 t0 c3;go_wp2_with fail
     refine (b5.out _).mono ?_;rintro e wn ⟨rfl,rfl⟩;go_wp2_with fail
     refine e4.out.mono ?_;rintro e wn ⟨rfl,rfl⟩;go_wp2_with (at_builtin;refine bB rfl _ _ 35 rfl _ _ (.slice (some ⟨gm,0,none⟩) (D2.length+1) d4) W8 rfl rfl o2.out ?_)
     refine o1.out.mono ?_;rintro e w9 ⟨rfl,k9,g9,_,i3,B4,C2,u7⟩;obtain ⟨c4,r9,Y⟩:=f4.out.steps X.out.may i3;rw [←k2.out] at Y;have F3:=Lib.hid c4;have d8:=Lib.hid (i5.out.trans u7);obtain ⟨H7,M7,M4,M1,L8,I,B9⟩:=C2;have A7:=I.cells.1;obtain ⟨T,eT⟩:∃T,g9.recs=T:=⟨_,rfl⟩;have c5:=I.post.kept;rw [eT] at c5 Y;have n3:=Lib.hid c5;have H9:=Lib.hid eT;have n0:=Lib.hid Y;have L0:T.length≤201000000:=by rw [←eT];exact I.post.sok.led.len
     have C0:(R.length:Int)≤(T.length:Int):=by rw [Y,List.length_append];omega
     have q3:(((bs T).extract 0 R.length).toList == (bs R).toList)=true:=by
      rw [ByteArray.toList_eq,ByteArray.toList_eq,Lib.extract_data,aI,aI,Y];show ((R++r9).extract 0 R.length == R)=true;rw [List.extract_eq_take_drop,List.drop_zero,Nat.sub_zero,List.take_left];simp
     have H3:g9.S.items.length≤1000000:=I.post.sok.led.items
     have g0:D6 (gA g9.S.items):=⟨by have:=yc g9.S;omega,fun m hm=>by
      obtain ⟨i,_,_,_,_,_,_,_,z⟩:=uZ I.post.sok.ok hm
      exact z.2.2.2.1⟩
     have q0:=Lib.hid g0;obtain ⟨d2,d3⟩:=Fi c4;rw [eT] at d2 d3;have q7:=Lib.hid d2;have b7:=Lib.hid d3;have X9:=ae d8.out q8.out;have y0:w9.cell? ⟨u.heap.size,0,none⟩=some (.string c.host):=by rw [Lib.cell_of_heap X9];rfl
     have y1:w9.cell? ⟨u.heap.size,1,none⟩=some (.slice aD c.doms.length cD):=by rw [Lib.cell_of_heap X9];rfl
     have y2:w9.cell? ⟨u.heap.size,2,none⟩=some (.slice aN c.nets.length cN):=by rw [Lib.cell_of_heap X9];rfl
     have y3:w9.cell? ⟨u.heap.size,3,none⟩=some (.slice aU c.users.length cU):=by rw [Lib.cell_of_heap X9];rfl
     have y4:w9.cell? ⟨u.heap.size,4,none⟩=some (.int .i64 c.most):=by rw [Lib.cell_of_heap X9];rfl
     have y5:w9.cell? ⟨u.heap.size,5,none⟩=some (.int .i64 c.size):=by rw [Lib.cell_of_heap X9];rfl
     have y6:w9.cell? ⟨u.heap.size,6,none⟩=some (.slice aW c.waits.length cW):=by rw [Lib.cell_of_heap X9];rfl
     have y7:w9.cell? ⟨u.heap.size,7,none⟩=some (.int .i64 c.life):=by rw [Lib.cell_of_heap X9];rfl
     have y8:w9.cell? ⟨u.heap.size,8,none⟩=some (.int .i64 c.room):=by rw [Lib.cell_of_heap X9];rfl
     have HO:=Lib.hid (qU c _ _ _ _ T w9 (i6.out.below d8.out) k4.out X.out.may I.post.glo (by omega));have x2:=Lib.hid I;have L1:=aG T;clear i3 B4 u7 c4 d2 d3 g0 Y I B9 eT c5 X9 c0 A9 q1 q2 h9 r2 r3 he o1 o2 b5 e4 n2;go_wp2_with fail
     refine n3.out.mono ?_;rintro e wn ⟨rfl,rfl⟩;go_wp2_with fail
     refine HO.out.mono ?_;intro e M8 c8;obtain ⟨pa,rfl,g5,m0,g7⟩:=Et c8;have q5:=Lib.hid g5;have a6:=Lib.hid g7;clear c8 g5 m0 g7 HO;have c1:=x2.out.below a6.out;have s1:=c1.cells.1;have f7:=Lib.hid c1.post.queue;clear c1 y0 y1 y2 y3 y4 y5 y6 y7 y8 A7;go_wp2_with fail
     refine f7.out.mono ?_;rintro e F1 ⟨va,E3,rfl,v7,u8,c6⟩;have f8:=Lib.hid ((q5.out F1 c6).2 (by rw [b7.out];omega));have A1:=Lib.hid v7;have x5:=Lib.hid u8;have Q:=Lib.hid c6;clear v7 u8 c6 f7 s1;go_wp2_with fail
     refine f8.out.mono ?_;rintro e w8 ⟨vb,F0,rfl,v8,l3,S⟩;rw [b7.out] at l3;have b0:=(q5.out w8 (Q.out.trans (S.mono Q.out.size))).1;rw [q7.out,List.take_length] at b0;have i9:=Lib.hid b0;have A4:=Lib.hid (zi (gA g9.S.items) va vb w8 (Es (A1.out.keep S) x5.out) (Es v8 l3) q0.out);have e6:=Lib.hid (Q.out.trans (S.mono Q.out.size));clear v8 l3 S f8 b0;go_wp2_with fail
     refine i9.out.mono ?_;rintro e wn ⟨rfl,rfl⟩;go_wp2_with fail
     refine A4.out.mono ?_;rintro e q ⟨rfl,g8⟩;have m6:=Lib.hid ((e6.out.trans (g8.mono e6.out.size)));clear g8;go_wp2_with fail
     have a5:Below Wa.heap.size Wa q:=d8.out.trans ((a6.out.trans (m6.out.mono a6.out.size)).mono d8.out.size);have J:=Lib.hid a5;have A:=ae a5 q8.out;have y0:q.cell? ⟨u.heap.size,0,none⟩=some (.string c.host):=by rw [Lib.cell_of_heap A];rfl
     have y1:q.cell? ⟨u.heap.size,1,none⟩=some (.slice aD c.doms.length cD):=by rw [Lib.cell_of_heap A];rfl
     have y2:q.cell? ⟨u.heap.size,2,none⟩=some (.slice aN c.nets.length cN):=by rw [Lib.cell_of_heap A];rfl
     have y3:q.cell? ⟨u.heap.size,3,none⟩=some (.slice aU c.users.length cU):=by rw [Lib.cell_of_heap A];rfl
     have y4:q.cell? ⟨u.heap.size,4,none⟩=some (.int .i64 c.most):=by rw [Lib.cell_of_heap A];rfl
     have y5:q.cell? ⟨u.heap.size,5,none⟩=some (.int .i64 c.size):=by rw [Lib.cell_of_heap A];rfl
     have y6:q.cell? ⟨u.heap.size,6,none⟩=some (.slice aW c.waits.length cW):=by rw [Lib.cell_of_heap A];rfl
     have y7:q.cell? ⟨u.heap.size,7,none⟩=some (.int .i64 c.life):=by rw [Lib.cell_of_heap A];rfl
     have y8:q.cell? ⟨u.heap.size,8,none⟩=some (.int .i64 c.room):=by rw [Lib.cell_of_heap A];rfl
     obtain ⟨D,eD⟩:∃D:Nat,T.length=R.length+D:=⟨T.length - R.length,by omega⟩
     have HD:=Lib.hid eD;have C9:IntKind.i64.wrap ((T.length:Int) - (R.length:Int))=(D:Int):=by rw [IntKind.wrap_i64];omega
     have D0:IntKind.i64.wrap ((D:Int)+1)=(D:Int)+1:=by rw [IntKind.wrap_i64];omega
     have v4:=dt O (n:=(D:Int)+1) (by omega);obtain ⟨P,eP⟩:∃P:Nat,cM O ((D:Int)+1)=(P:Int):=⟨(cM O ((D:Int)+1)).toNat,by omega⟩
     rw [eP] at v4
     have z9:Hid (∀W:World,Calls Tryz.prog 20 #[.int .i64 O,.int .i64 ((D:Int)+1)] W fun e w'=>e= .returned (.int .i64 (P:Int))∧W=w'):=Lib.hid fun W=>by
      have:=bZ O ((D:Int)+1) W f2.out.1 f2.out.2 (by omega) (by omega);rw [eP] at this;exact this
     obtain ⟨K,eK⟩:∃K:Nat,R.length+P=K:=⟨_,rfl⟩;have D1:IntKind.i64.wrap ((R.length:Int)+(P:Int))=(K:Int):=by rw [IntKind.wrap_i64];omega
     have B6:(K:Int)≤(T.length:Int):=by omega
     have B5:(R.length:Int)≤(K:Int):=by omega
     have K0:=Lib.hid eK
     have U:T.take K=R++r9.take P:=by
      rw [n0.out,←eK,List.take_append,List.take_of_length_le (by omega),Nat.add_sub_cancel_left]
     have l5:(bs T).extract 0 K=bs (T.take K):=by rw [fW,List.drop_zero]
     have k8:(T.take K).length=K:=by rw [List.length_take];omega
     obtain ⟨C,b8⟩:∃C,T.take K=C:=⟨_,rfl⟩;rw [b8] at U l5 k8;have z5:=Lib.hid (qU c _ _ _ _ C q.drew ((i6.out.below a5).below ((Below.refl _ q).drew)) k4.out X.out.may (((HG.out.below p.out).below a5).below ((Below.refl _ q).drew)) (by omega));have k7:C=(ie g3).recs++r9.take P:=by rw [U,k2.out]
     have z4:Hid ((bw C).1.Ok→R.length≤(bw C).2∧(bw C).2≤C.length∧(∀m∈gA (bw C).1.items,m.id=g3.S.items.length+1→m.tos=[de]∧m.body=nj∧m.frm=fK)∧((∀m∈gA (bw C).1.items,m.id≠g3.S.items.length+1)→R.length < (bw C).2)):=Lib.hid fun m0=>by
      have:=Hh (g:=g3) f4.out.kx (r9.take P) (by rw [←k7];exact m0);rw [←k7,←k2.out] at this;exact this
     have f5:Hid ((bw C).1.items.length≤1000000):=Lib.hid (by
      have Z:=Du C (T.drop K);rw [←b8,List.take_append_drop,b7.out,b8] at Z
      omega)
     have G0:=Lib.hid U;have f6:=Lib.hid k8;have n6:=Lib.hid b8;have x9:=Lib.hid l5;clear a5 A eD eP v4 eK U k8 b8 l5 q3 C0 k7
     go_region_law (first
      | (go_simp;go_at_call 20;refine (z9.out _).mono ?_;rintro e wx ⟨rfl,rfl⟩;dsimp only)
      | (go_simp;go_at_call 18;rw [x9.out];refine z5.out.mono ?_;intro e x0 c8;obtain ⟨pq,rfl,g4,i1,h6⟩:=Et c8;have b6:=Lib.hid g4;have o0:=Lib.hid i1;have e7:=Lib.hid h6;clear c8 g4 i1 h6;dsimp only))
     all_goals
      obtain ⟨p1,p2,p3,p4⟩:=z4.out o0.out;obtain ⟨M,eM⟩:∃M,(bw C).2=M:=⟨_,rfl⟩;rw [eM] at p1 p2 p4;rw [f6.out] at p2;obtain ⟨SM,e5⟩:∃SM,C.take M=SM:=⟨_,rfl⟩;have t4:SM.length=M:=by rw [←e5,List.length_take,f6.out];omega
      have K6:(R.length:Int)≤(M:Int):=by omega
      have K5:(M:Int)≤(T.length:Int):=by omega
      have K9:(bs SM).size=M:=by rw [aG,t4]
      have q4:(((bs T).extract 0 M).toList == (bs SM).toList)=true:=by
       have e1:T.take M=SM:=by rw [←e5,←n6.out,List.take_take,Nat.min_eq_left p2]
       rw [fW,List.drop_zero,e1];simp
      have b4:=(b6.out x0 (Below.refl _ _)).1;rw [eM,e5] at b4;have n4:=Lib.hid b4;have f9:=Lib.hid ((b6.out x0 (Below.refl _ _)).2 (by have:=f5.out;omega));have z6:=Lib.hid p3;have z7:=Lib.hid p4;clear p1 p2 p3 p4 eM e5 t4 b4 b6 y0 y1 y2 y3 y4 y5 y6 y7 y8 C9 D0 D1 B6 B5;go_wp2_with fail
      refine n4.out.mono ?_;rintro e wn ⟨rfl,rfl⟩;go_wp2_with fail
      refine f9.out.mono ?_;rintro e B ⟨vq,f,rfl,m1,l4,h7⟩;obtain ⟨aq,cq,B3⟩:=aE (aF m1.row);subst B3
      have L5:f.length≤1048576:=by
       have Z:f.length=(gA (bw C).1.items).length:=by rw [←l4,List.length_map]
       have h2:=yc (bw C).1;have h3:=f5.out;omega
      have o6:=Lib.hid m1;have m8:=Lib.hid l4;have BE:Below w.heap.size w B:=((p.out.trans (J.out.mono p.out.size)).trans (((Below.refl _ q).drew.trans e7.out).mono (Nat.le_trans p.out.size J.out.size))).trans (h7.mono (Nat.le_trans (Nat.le_trans p.out.size J.out.size) ((Below.refl _ q).drew.trans e7.out).size));have m7:=Lib.hid BE;clear m1 l4 h7 BE n4 f9;go_wp2_with fail
      go_loopw [36] (fun i F2=>∃j:Nat,j≤f.length∧i= .int .i64 j∧Hid (∀k (hk:k < f.length),k < j→f[k].1.id≠N)∧B=F2) (fun i _=>f.length - (intOf i).toNat)
      case atStart=>exact ⟨0,Nat.zero_le _,rfl,Lib.hid (fun k _ h=>absurd h (Nat.not_lt_zero k)),rfl⟩
      case round=>
       obtain ⟨j,hj,rfl,n9,rfl⟩:=hrel
       by_cases l6:j < f.length
       ·have u9:(j:Int) < (f.length:Int):=by omega
        have l8:j < (f.map gW).length:=by rw [List.length_map];exact l6
        obtain ⟨qb,o⟩:∃qb,aq=some ⟨qb,0,none⟩∧∀i,i < 5→B.cell? ⟨qb,j * 5+i,none⟩=(aY f[j].1 (gW f[j]).2)[i]? :=by
         rcases o6.out.row.2 with ⟨_,h0⟩ | ⟨g',cp,K4,e,_,hg,_,_,_,C7⟩
         ·omega
         ·injection e with e1 _ _;refine ⟨g',e1,fun i hi=>?_⟩;rw [Lib.cell_of_heap hg,←Array.getElem?_toList,←List.getElem?_take_of_lt (show j * 5+i < f.length * 5 by omega),C7,lU _ _ _ l8 hi,List.getElem_map];rfl
        obtain ⟨rfl,o⟩:=o;have hm:f[j].1∈gA (bw C).1.items:=by rw [←m8.out];exact List.mem_map_of_mem (List.getElem_mem l6)
        have v:=aF (o6.out.tos f[j] (List.getElem_mem l6));have t3:=z6.out _ hm;obtain ⟨⟨m,gq⟩,em⟩:∃r,f[j]=r:=⟨_,rfl⟩;have x7:=Lib.hid em;rw [em] at o v t3;have s0:B.cell? ⟨qb,j * 5,none⟩=some (.int .i64 m.id):=o 0 (by decide);have s2:B.cell? ⟨qb,j * 5+2,none⟩=some (.string (bs m.frm)):=o 2 (by decide);have s3:B.cell? ⟨qb,j * 5+3,none⟩=some (.slice (some ⟨gq,0,none⟩) m.tos.length m.tos.length):=o 3 (by decide);have s4:B.cell? ⟨qb,j * 5+4,none⟩=some (.string (bs m.body)):=o 4 (by decide)
        by_cases c7:m.id=N
        ·obtain ⟨u1,u2,u3⟩:=t3 (by show m.id=_;rw [c7,j1.out]);have u1:m.tos=[de]:=u1;have u2:m.body=nj:=u2;have u3:m.frm=fK:=u3
         have sg:B.cell? ⟨gq,0,none⟩=some (.string (bs de)):=by
          have v:bg B (.slice (some ⟨gq,0,none⟩) m.tos.length m.tos.length) m.tos.length 1 (aB m.tos):=v;rw [u1] at v
          rcases v.2 with ⟨h0,_⟩ | ⟨b,L9,K2,e,_,h⟩
          ·cases h0
          ·injection e with e1 _ _;injection e1 with e1;injection e1 with e1 e2;have:=h 0 (by decide);rw [←e1,←e2] at this;exact this
         rw [c7] at s0;rw [u1] at s3;rw [u2] at s4;rw [u3] at s2;have z1:((bs de).toList == [122,64,97,46,111,114,103])=true:=by rw [ByteArray.toList_eq,aI];rfl
         have z2:((bs nj).toList == [108,97,115,116])=true:=by rw [ByteArray.toList_eq,aI];rfl
         have z3:((bs fK).toList == [109,101,64,104,101,114,101,46,111,114,103])=true:=by rw [ByteArray.toList_eq,aI];rfl
         clear o v t3 em hm l8 u1 u2 u3 c7;go_wp2_with fail
         go_ret;exact ⟨rfl,m7.out⟩
        ·have H0:¬(m.id:Int)=(N:Int):=by omega
         have z0:=Lib.hid c7;clear o v t3 em hm l8 c7;go_wp2_with fail
         exact ⟨⟨j+1,by omega,by go_num,Lib.hid (fun k hk L4=>by
          rcases Nat.lt_or_ge k j with h | h
          ·exact n9.out k hk h
          ·obtain rfl:k=j:=by omega
           rw [x7.out]
           exact z0.out),trivial⟩,by simp [intOf];omega⟩
       ·have u9:¬(j:Int) < (f.length:Int):=by omega
        have G2:(R.length:Int) < (M:Int):=by
         have:=z7.out fun m hm=>by
          rw [←m8.out] at hm;obtain ⟨r,hr,rfl⟩:=List.mem_map.1 hm;obtain ⟨k,hk,rfl⟩:=List.getElem_of_mem hr;rw [←j1.out];exact n9.out k hk (by omega)
         omega
        go_wp2_with fail
        go_ret;exact ⟨rfl,m7.out⟩
    ·have q1:((bs x).toList == [52,53,50,32,114,111,111,109])=true:=by
      rw [ByteArray.toList_eq,aI,ex];rfl
     have C6:(999800:Int) < (R.length:Int):=by
      have Z:=Hk hk;have h2:g6.recs=g3.recs:=by rw [eg]
      rw [←m9.out,h2];omega
     clear hk ex eg;go_wp2_with fail
     refine (b5.out _).mono ?_;rintro e wn ⟨rfl,rfl⟩;go_wp2_with fail
     refine e4.out.mono ?_;rintro e wn ⟨rfl,rfl⟩;go_wp2_with fail
     go_ret;exact ⟨rfl,(p.out.trans (a8.out.mono p.out.size)).trans (V.out.mono (Nat.le_trans p.out.size a8.out.size))⟩
   | cons y r=>
    have he:(bs (js (y::r))).toList.isEmpty=false:=by
     rw [ByteArray.toList_eq,aI];simp [js]
    have p7:=Lib.hid (rU (js (y::r)) C3);rw [DJ (n8.out y (List.mem_cons_self ..)) r] at p7
    have c9:(js (y::r)).length=y.length+2+(js r).length:=by
     unfold js;rw [List.flatMap_cons,List.length_append,List.length_append];rfl
    have n5:=Lib.hid c9;clear c9;go_wp2_with fail
    refine (p7.out _).mono ?_;rintro e w7 ⟨rfl,u5⟩;have x3:=Lib.hid (V.out.trans (u5.mono V.out.size));clear u5;go_wp2_with fail
    refine ⟨⟨y,r,rfl,rfl,Lib.hid fun z hz=>n8.out z (List.mem_cons_of_mem _ hz),by have:=n5.out;omega,Lib.hid (n7.out),x3⟩,?_⟩
    have Z:=aG (js r);have h2:=aG (js (y::r));have h3:=n5.out;show (bs (js r)).size < (bs (js (y::r))).size;omega
 ·have G1:(100:Int)≤(a4.length:Int):=by omega
  have e3:=Lib.hid (G.out.post.connNo 1 hl);have HE:=Lib.hid (p.out.trans ((a7.out.trans i4.out).mono p.out.size));clear hl d1 i0;go_wp2_with fail
  refine e3.out.mono ?_;rintro e wn ⟨rfl,rfl⟩;go_wp2_with fail
  go_ret;exact ⟨rfl,HE.out⟩
open Go.ChangeShapes Go.WideShapes Go.ChangeAt Go.RowKit
theorem El:laidOutB Tryz.prog=true:=by kernel_rfl
theorem ou:(Rows.lastingRow.laid.all fun x=>x.2.handleName?.isNone)=true:=by kernel_rfl
theorem CV:("internal/strconv.uint64pow10",Rows.laid_internal_strconv_uint64pow10)∈Rows.lastingRow.laid:=List.Mem.tail _ (List.Mem.tail _ (List.Mem.head _))
theorem CW:("unicode/utf8.acceptRanges",Rows.laid_unicode_utf8_acceptRanges)∈Rows.lastingRow.laid:=List.Mem.tail _ (List.Mem.tail _ (List.Mem.tail _ (List.Mem.head _)))
theorem CX:("unicode/utf8.first",Rows.laid_unicode_utf8_first)∈Rows.lastingRow.laid:=List.Mem.tail _ (List.Mem.tail _ (List.Mem.tail _ (List.Mem.tail _ (List.Mem.tail _ (List.Mem.tail _ (List.Mem.tail _ (List.Mem.tail _ (List.Mem.tail _ (List.Mem.head _)))))))))
theorem uB (G:Os) (i:G.Started) (H:Type) (d:TypeId×Value→H):
  ReturnsInHanded {} Tryz.checked G 4 .any (fun w b=>(Rows.lastingSpec.pre d Tryz.prog Tryz.f4 [] false w b∧laidMetH Tryz.prog Rows.lastingRow.laid w)∧sizedMet d Tryz.prog Tryz.f4 (OpenSpec.ofChange Rows.lastingSpec) false w b)
   (Rows.lastingSpec.post d Tryz.prog Tryz.f4 false true false false):=by
 refine pe (C:=Tryz.checked) (X:=fun w _=>laidMetH Tryz.prog Rows.lastingRow.laid w) (fun _ _ _ hh h=>h.of_heap hh) own i (by kernel_rfl) Tryz.func4
  (ChangeSpec.witness_shaped (enc:=d) (C:=Tryz.checked) (os:=G) (X:=fun w _=>laidMetH Tryz.prog Rows.lastingRow.laid w) false (World.laidAll Tryz.prog G Rows.lastingRow.laid) #[.slice none 0 0,.slice none 0 0,.int .i64 0] 8 (World.laidAll_os _ _ _)
   (World.shaped_of_ZipB (by kernel_rfl) (by kernel_rfl)) (by kernel_rfl) (by kernel_rfl) (by kernel_rfl)
   (by rw [MakeChecks.laidMetH_plain _ _ _ ou];exact laidMet_laidAll _ (by kernel_rfl) (by kernel_rfl))) ?_
 intro W r b ds gs I g Z _ E f P;rw [MakeChecks.laidMetH_plain _ _ _ ou] at f;have c:∀(j:Nat) t v,Tryz.f4.params[j]? =some t→b[j]? =some v→Value.okWide Tryz.prog W .any r t v:=g;have k:=Z;obtain ⟨p,q,u,hV,rfl,_,_⟩:=Z;have Y:DataW.TrodAll d Tryz.prog W 0 (fun _=>true) true Tryz.f4.params.toList b.toList ds p:=u;rw [Tryz.params4] at Y c;obtain ⟨v0,v1,v2,d0,d1,d2,p0,p1,p2,rfl,rfl,rfl,U,V,h2⟩:=trodAll_three Y;obtain ⟨rfl,rfl⟩:=trodVars_none hV;obtain ⟨z,rfl,rfl,rfl,w2⟩:=open_int Tryz.underlying3 (c 2 3 v2 rfl rfl) h2;have K:=U;have L:=V;have A:∀x∈p0,x.block < W.heap.size:=fun x R=>k.lt x (by simp [R]);have B:∀x∈p1,x.block < W.heap.size:=fun x R=>k.lt x (by simp [R]);obtain ⟨a,F,s,rfl⟩:=okWide_slice Tryz.underlying22 (c 0 22 v0 rfl rfl);obtain ⟨S,n,m,rfl⟩:=okWide_slice Tryz.underlying22 (c 1 22 v1 rfl rfl);obtain ⟨T,h4⟩:=U;obtain ⟨J,M⟩:=V;obtain ⟨v,l,hc,D,a1,O⟩:=uR h4 (rD E (j:=0) rfl rfl);obtain ⟨v',l',N,o,a0,y⟩:=uR M (rD E (j:=1) rfl rfl)
 have hv:Value.slice a F s=v:=by
  have e:[Value.slice a F s]=[v]:=hc;exact List.cons.inj e |>.1
 have Q:Value.slice S n m=v':=by
  have e:[Value.slice S n m]=[v']:=N;exact List.cons.inj e |>.1
 subst hv Q;have hg:=EW f CV CW CX P;clear u g;refine (sA l l' _ _ z W hg D ⟨by omega,O⟩ o ⟨by omega,y⟩ (qE w2)).mono fun e W' ⟨he,hb⟩=>?_;subst he;simp only [List.append_nil] at k;exact ⟨_,rfl,_,_,_,[],_,[],k,trodAll_mk1 (shut_bool Tryz.underlying4 _),trodAll_mk3 (Below.trod El (by kernel_rfl) (of_decide_eq_true (by kernel_rfl)) K hb A) (Below.trod El (by kernel_rfl) (of_decide_eq_true (by kernel_rfl)) L hb B) (shut_int Tryz.underlying3 w2),rfl,hb.frame _,fun h=>by cases h⟩
end Go.Proofs.YtofpegbpgkkgkaaGreatDoor
