import Derived.Test.YtofpegbpgkkgkaaGreatDoorS23
import Derived.Test.YtofpegbpgkkgkaaGreatDoorS24
import Derived.Test.YtofpegbpgkkgkaaGreatDoorS25
import Derived.Carry
import Derived.SevenTiedAt
import Derived.Stop.Joined
namespace Go.Proofs.YtofpegbpgkkgkaaGreatDoor
set_option maxHeartbeats 8000000
set_option maxRecDepth 1000000
open Go.RowKit
theorem wN {E own:Nat→Prop} {m l:Nat} {c:bX} {w:World} {p o:Value} {x:List (ca×Value)} {v:List (aX×Value)} {g:GS} (b:dX c) (h:gX E own m l c w p o x v g) (k:hJ g) (a d e:Int) (f: -9223372036854775808≤a∧a≤9223372036854775807) (i: -9223372036854775808≤d∧d≤9223372036854775807) (j: -9223372036854775808≤e∧e≤9223372036854775807):
  Calls Tryz.prog 9 #[.pointer (some ⟨l,0,none⟩),.agg #[.int .i64 a,.int .i64 d,.int .i64 e]] w (jG E own m l c w p o g):=by
 have y:=dt a (n:=12) (by decide)
 by_cases q:cM a 12≤5
 ·exact Di b h k a d e f i j q
 by_cases r:cM a 12=6
 ·exact Df b h k a d e f i j r
 by_cases s:cM a 12=7
 ·exact Dj b h k a d e f i j s
 by_cases t:cM a 12=8
 ·exact Dg b h k a d e f i j t
 by_cases u:cM a 12=9∨cM a 12=10
 ·exact Ft b h k a d e f i j u
 ·exact Dh b h k a d e f i j (by omega)
def zQ (base:Nat) (E:Nat→Prop) (pp gb:Nat) (c:bX) (g:GS) (n:Nat) (w:World) (e:Ending) (w':World):Prop:=
 e= .returned (.tuple #[])∧∃k g',k≤9 * n∧fy c k g g'∧hJ g'∧GW base E pp gb c g' w'∧Below base w w'
theorem pU {a:Nat} {E:Nat→Prop} {Q C:Nat} {c:bX} {g:GS} {w:World} (y:dX c) (X:GW a E Q C c g w) (hb:a≤w.heap.size) (Y:hJ g) (l:List (Int×Int×Int)) (v:Value) {D:World} (Z:bg D v l.length 3 (iA l)) (U:Below D.heap.size D w) (hz:D.heap.size≤a) (K:yu l):
  Calls Tryz.prog 12 #[.pointer (some ⟨C,0,none⟩),v] w (zQ a E Q C c g l.length w):=by
 obtain ⟨av,cv,rfl,B⟩:=De Z;have I:=Lib.hid B;have h:=Lib.hid U;have HL:=Lib.hid K;have a1:=K.1;have HW:=Lib.hid X;have HI:=Lib.hid Y;have G:=Lib.hid y;clear Z U K B X Y y;go_enter Tryz.func12,Tryz.ntmps12;go_wp2_with fail
 go_loopw [4] (fun i wr=>∃(k s:Nat) (q:GS),k≤l.length∧s≤9 * k∧i= .int .i64 k∧Hid (fy c s g q)∧Hid (GW a E Q C c q wr)∧Hid (hJ q)∧Hid (Below a w wr)) (fun i _=>l.length - (intOf i).toNat)
 case atStart=>exact ⟨0,0,g,Nat.zero_le _,Nat.zero_le _,rfl,Lib.hid (.nil g),HW,HI,Lib.hid (Below.refl _ _)⟩
 case round=>
  obtain ⟨k,s,q,hk,hs,rfl,o,n,m,j⟩:=hrel
  by_cases z:k < l.length
  ·have A:(k:Int) < (l.length:Int):=by omega
   obtain ⟨O,P,rfl,d,R,S,T⟩:=I.out k z;have b:=Nat.lt_of_lt_of_le d hz;obtain ⟨L,M,N⟩:=HL.out.2 l[k] (List.getElem_mem z)
   generalize l[k]=mv at R S T L M N
   obtain ⟨kd,nn,vv⟩:=mv;have e0:wr.cell? ⟨O,P+k * 3,none⟩=some (.int .i64 kd):=(j.out.cell b).trans ((h.out.cell d).trans R);have e1:wr.cell? ⟨O,P+k * 3+1,none⟩=some (.int .i64 nn):=(j.out.cell b).trans ((h.out.cell d).trans S);have e2:wr.cell? ⟨O,P+k * 3+2,none⟩=some (.int .i64 vv):=(j.out.cell b).trans ((h.out.cell d).trans T);obtain ⟨own,vS,vM,sl,ml,V,W⟩:=n.out;have HM:=Lib.hid (wN G.out V m.out kd nn vv L M N);have HS:=Lib.hid W;clear R S T L M N V W;go_wp2_with fail
   refine HM.out.mono ?_;rintro e w3 ⟨rfl,ks,g3,a0,f,r,t⟩;obtain ⟨u,x⟩:=GW.to HS.out (Nat.le_trans hb j.out.size) t;have J:=Lib.hid u;have H:=Lib.hid r;have F:=Lib.hid (j.out.trans x);have p:=Lib.hid (o.out.trans f);clear t x u r f;go_wp2_with fail
   exact ⟨⟨k+1,s+ks,g3,by omega,by omega,by go_num,p,J,H,F⟩,by simp [intOf];omega⟩
  ·have A:¬(k:Int) < (l.length:Int):=by omega
   go_wp2_with fail
   refine bodyPost_end (results_none rfl _ _ _) rfl ?_;exact ⟨rfl,s,q,by omega,o.out,m.out,n.out,j.out⟩
theorem KB (l:List (Int×Int×Int)) (v:Value) (w:World) (hg:iR w) (hr:bg w v l.length 3 (iA l)) (hl:yu l) (hz:l.length≤140737488351232):
  Calls Tryz.prog 5 #[v] w fun e w'=>e= .returned (.bool true)∧Below w.heap.size w w':=by
 have H1:=Lib.hid (zj 3 500 59 w (by decide) (by decide) (by decide));rw [LB] at H1;have K:Hid (∀(vD vN vU vW:Value) (W:World),jZ W LA vD vN vU vW→iR W→_):=Lib.hid (fun vD vN vU vW W u h2=>Cl (a:=3) (b:=500) (d:=59) (by decide) (by decide) (by decide) vD vN vU vW W u h2);have j:=Lib.hid Lq;have c2:Hid (LA.waits=[1,5,2]):=Lib.hid rfl;have e1:Hid (cQ LA=[109,120,46,111,114,103]):=Lib.hid rfl;obtain ⟨av,cv,ev,d2⟩:=De hr;clear d2;have L:Hid (∀(E:Nat→Prop) (p f:Nat) (g:GS) (W:World),GW w.heap.size E p f LA g W→w.heap.size≤W.heap.size→hJ g→Below w.heap.size w W→Calls Tryz.prog 12 #[.pointer (some ⟨f,0,none⟩),v] W (zQ w.heap.size E p f LA g l.length W)):=Lib.hid fun E p f g W u h2 h3 h4=>pU Lq u h2 h3 l v hr h4 (Nat.le_refl _) hl;subst ev;have HG:=Lib.hid hg;obtain ⟨n,en⟩:∃n,l.length=n:=⟨_,rfl⟩;rw [en] at L hz ⊢;obtain ⟨c,ec⟩:∃c,LA=c:=⟨_,rfl⟩;rw [show dD 3 500 59=c from ec] at K;rw [ec] at H1 K j L c2 e1;clear hr hl hg en ec;go_enter Tryz.func5,Tryz.ntmps5;go_wp2_with fail
 refine H1.out.mono ?_;rintro e w1 ⟨vD,vN,vU,vW,rfl,e6,d1⟩;have H2:=Lib.hid (K.out vD vN vU vW w1 e6 (HG.out.below d1));have a9:=Lib.hid d1;clear e6 d1;go_wp2_with fail
 refine H2.out.mono ?_;rintro e w2 ⟨f,E,own,p,vS,vM,sl,ml,rfl,Q,hS,f0⟩;have y:Hid (KS c (I5 c)):=Lib.hid ⟨Q.post.sok,fun n s hs=>Q.post.inv hs,(fun t ht=>by cases ht)⟩;have e9:GW w.heap.size E p f c (I5 c) w2:=⟨own,vS,vM,sl,ml,Q,fun k e=>Nat.le_trans a9.out.size (hS k e)⟩;have S:=a9.out.trans (f0.mono a9.out.size);have HP:=Lib.hid (L.out E p f _ w2 e9 S.size (Gr j.out) S);have g0:=Lib.hid S;clear Q hS f0 H1 H2 K L e9 S;go_wp2_with fail
 refine HP.out.mono ?_;rintro e w3 ⟨rfl,k3,g3,f5,F,j0,j1,f1⟩;have Z:=y.out.steps j.out.may F;obtain ⟨a4,D⟩:=F.late j.out.may c2.out y.out (La c);rw [Lp] at D;obtain ⟨k6,m1,l8,l5,l3,c4,e7⟩:=j1;have c0:=c4.cells.1;have HH:=Lib.hid (GR c4);have e3:=Lib.hid e7;have z:=Lib.hid Z;have X:=Lib.hid a4;have Y:=Lib.hid D;have d5:=Lib.hid (g0.out.trans f1);have e2:=Lib.hid f5;clear F j0 f1 Z a4 D c4 e7 HP y f5;go_wp2_with fail
 refine HH.out.mono ?_;rintro e w4 ⟨er,rfl,k4,g4,k5,G,_,a7,e8⟩;have a0:=z.out.steps j.out.may G;obtain ⟨a5,f6⟩:=G.late j.out.may c2.out z.out X.out;obtain ⟨c7,a6⟩:=Ln.of a0 a5 a7;obtain ⟨c9,f2⟩:=GW.to e3.out d5.out.size e8;obtain ⟨T0,c3⟩:∃T,g4.S.time=T:=⟨_,rfl⟩
 have P:w4.cell? ⟨f,12,none⟩=some (.int .i64 (T0:Int)):=by
  obtain ⟨k7,m2,m0,l6,l4,i9,_⟩:=c9;rw [←c3];exact i9.cells.2.2.2.1
 rw [c3] at c7 a6;have i1:=Lib.hid c9;have g6:=Lib.hid c7
 have g8:Hid (g4.mu T0≤18 * n+20):=Lib.hid (by
  have:=Y.out;have:=e2.out
  omega)
 have d6:=Lib.hid (d5.out.trans f2);clear a0 a5 f6 c7 a6 c9 f2 e8 a7 G k5 c3 HH c0 e3 z X Y e2
 by_cases k9:(999999000:Int) < (T0:Int)
 ·go_wp2_with fail
  go_ret;exact ⟨rfl,d6.out⟩
 ·have h8:Hid (T0≤999999000):=Lib.hid (by omega);have l0:IntKind.i64.wrap (30 * (n:Int))=30 * (n:Int):=by rw [IntKind.wrap_i64];omega
  have l1:IntKind.i64.wrap (500+30 * (n:Int))=500+30 * (n:Int):=by rw [IntKind.wrap_i64];omega
  go_wp2_with fail
  clear P;go_loopw [4] (fun v wr=>∃(i:Nat) (g:GS),v= .int .i64 i∧Hid (i+g.mu T0≤18 * n+20)∧Hid (GW w.heap.size E p f c g wr)∧Hid (Ln c T0 g)∧Hid (Below w.heap.size w wr)) (fun v _=>500+30 * n - (intOf v).toNat)
  case atStart=>exact ⟨0,g4,rfl,Lib.hid (by have:=g8.out;omega),i1,g6,d6⟩
  case round=>
   obtain ⟨i,g,rfl,c1,g7,x,HB⟩:=hrel;have hi:(i:Int) < 500+30 * (n:Int):=by have:=c1.out;omega
   obtain ⟨own,vS,vM,sl,ml,Q,hS⟩:=g7.out;have c0:=Q.cells.1;have HQ:=Lib.hid Q.post.queue;have HA:=Lib.hid Q;have HS:=Lib.hid hS;clear Q hS;go_wp2_with fail
   refine HQ.out.mono ?_;rintro e w5 ⟨vq,J,rfl,d4,d3,V⟩;obtain ⟨aq,cq,i6⟩:=aE (aF d4.row)
   have f7:J.length=g.S.live.length:=by
    have u:J.length=(gA g.S.items).length:=by rw [←d3,List.length_map]
    rw [u,Bv HA.out.post.sok.ok,List.length_map]
   have c5:=HA.out.below V;have e4:=c5.cells.1;have a8:=Lib.hid c5;have h7:=Lib.hid d4;have h6:=Lib.hid d3;have d7:=Lib.hid V;have h5:=Lib.hid f7;have d8:=Lib.hid (HB.out.trans (V.mono HB.out.size));subst i6;obtain ⟨R,eR⟩:∃R,J.length=R:=⟨_,rfl⟩;have e0:=Lib.hid eR;rw [eR];clear c5 d4 d3 V f7 HQ c0 eR
   by_cases h0:(R:Int)=0
   ·go_wp2_with fail
    go_ret;exact ⟨rfl,d8.out⟩
   ·have g9:Hid (g.S.live≠[]):=Lib.hid fun e=>h0 (by
     have u:=h5.out;rw [e,e0.out] at u;have u:R=0:=u
     omega)
    have HD:Hid (Calls Tryz.prog 22 #[.pointer (some ⟨p,0,none⟩)] w5 fun e w'=>((∀i∈g.S.live,(g.S.time:Int) < (g.d i).1)∧e= .returned (.tuple #[.int .i64 0,.int .i64 5])∧tB E own p f c w5 vS vM sl ml g w')∨∃i,i∈g.S.live∧e= .returned (.tuple #[.int .i64 ((i:Int)+1),.int .i64 0])∧tB E own p f c w5 vS vM sl ml {g with tk:=some (jM g.S i)} w'):=Lib.hid (by
     have hp:=a8.out.post;rw [x.out.tk] at hp;refine hp.dial.mono ?_;rintro e w6 (⟨k1,k2,k3⟩ | ⟨a,k1,_,k2,k3⟩)
     ·rw [←x.out.tk] at k3;obtain ⟨m,o,M,O⟩:=a8.out.call k3 rfl;exact .inl ⟨k1,k2,m,o,M,O⟩
     ·obtain ⟨m,o,M,O⟩:=a8.out.call k3 rfl
      exact .inr ⟨a,k1,k2,m,o,M,O⟩)
    go_wp2_with fail
    refine HD.out.mono ?_;rintro e w6 (⟨f4,rfl,U⟩ | ⟨a,d0,rfl,U⟩)
    ·obtain ⟨m,o,M,O⟩:=U;obtain ⟨r,h,I,q⟩:=x.out.tick j.out.may h8.out g9.out f4;have H:=o.tickA x.out.tk (g.S.time+1) ⟨Nat.le_succ _,q⟩ ((Below.refl _ _).drew);obtain ⟨C,b1,b2,b3,b4,b5,b6,b7⟩:=o.blk;have i4:=o.cells.1;have P:=o.cells.2.2.2.1;have i8:=o.cells.2.2.2.2.2 12;obtain ⟨N,eN⟩:∃N,g.S.time=N:=⟨_,rfl⟩;rw [eN] at H P q r h I;rw [show ((N+1:Nat):Int)=(N:Int)+1 by omega] at H
     have b8:=heap_setCell_same w6 f 12 _ _ (.int .i64 ((N:Int)+1)) b1;have l2:IntKind.i64.wrap ((N:Int)+1)=(N:Int)+1:=by rw [IntKind.wrap_i64];omega
     have b0:=Lib.hid r;have A:=Lib.hid h;have f8:=Lib.hid M;have f9:=Lib.hid O;go_wp2_with fail
     obtain ⟨W7,B⟩:∃W,w6.setCell ⟨f,12,none⟩ (.int .i64 ((N:Int)+1))=W:=⟨_,rfl⟩;rw [B] at H b8 ⊢;have i5:W7.cell? ⟨f,0,none⟩=some (.pointer (some ⟨p,0,none⟩)):=by rw [Lib.cell_of_heap b8,Array.getElem?_setIfInBounds_ne (by decide)];exact b3
     have e5:W7.cell? ⟨f,12,none⟩=some (.int .i64 ((N:Int)+1)):=by rw [Lib.cell_of_heap b8,Array.getElem?_setIfInBounds_self_of_lt (by omega)]
     have i0:=Lib.hid H
     have i3:Hid (∀w8:World,cX E m p f c w6 vS vM (yj c g (N+1)) w8→w8.cell? ⟨f,0,none⟩=some (.pointer (some ⟨p,0,none⟩))∧w8.cell? ⟨f,12,none⟩=some (.int .i64 ((N:Int)+1))):=Lib.hid fun w8 hT=>by
      obtain ⟨_,_,_,_,_,o,_,_⟩:=hT;refine ⟨o.cells.1,?_⟩;rw [o.cells.2.2.2.1,I];rfl
     clear r h q I o M O b1 b2 b3 b4 b5 b6 b7 b8 i4 P i8 B H eN f4 e4 HD
     go_region_held3 (fun w'=>w'.cell? ⟨f,0,none⟩=some (.pointer (some ⟨p,0,none⟩))∧w'.cell? ⟨f,12,none⟩=some (.int .i64 ((N:Int)+1)))
      (first | exact S8 | exact ⟨i5,e5⟩)
      (first | (go_at_call 23;refine i0.out.mono ?_;rintro e w8 ⟨rfl,c8⟩;have S8:=i3.out w8 c8;have h9:=Lib.hid c8;clear c8))
     go_wp2_with fail
     obtain ⟨j2,k0⟩:=GW.to HS.out HB.out.size (cX.from d7.out (cX.called f8.out f9.out h9.out));exact ⟨⟨i+1,yj c g (N+1),by go_num,Lib.hid (by have u:=A.out;have h2:=c1.out;omega),Lib.hid j2,b0,Lib.hid (HB.out.trans k0)⟩,by simp [intOf];omega⟩
    ·have hs:∀k,wr.heap.size≤k→k < w5.heap.size→¬(k=p∨own k):=fun k u _ e=>by
      rcases e with e | e
      ·have:=HA.out.post.elt HA.out.post.epp;omega
      ·have:=HA.out.post.lt e;omega
     have c6:=tI e1.out U (i:=a) rfl d0 h7.out h6.out hs;rw [e0.out] at c6;have d9:=Lib.hid c6;obtain ⟨r,h,_⟩:=x.out.over j.out.may d0;have b0:=Lib.hid r;have A:=Lib.hid h;clear c6 hs U d0 r h e4 HD;go_wp2_with fail
     refine d9.out.mono ?_;rintro e w7 ⟨rfl,k8,o,M,O⟩;obtain ⟨B,f3⟩:=GW.to HS.out HB.out.size (cX.from d7.out (cX.called M O (cX.refl o)));have i2:Hid (GW w.heap.size E p f c (Bt c {g with tk:=some (pq a (g.S.stayOf a))} (pq a (g.S.stayOf a))) w7):=Lib.hid B;have g5:=Lib.hid (HB.out.trans f3);clear o M O B f3 d9;go_wp2_with fail
     exact ⟨⟨i+1,_,by go_num,Lib.hid (by have u:=A.out;have h2:=c1.out;omega),i2,b0,g5⟩,by simp [intOf];omega⟩
open Go.ChangeShapes Go.WideShapes Go.ChangeAt Go.RowKit
theorem El:laidOutB Tryz.prog=true:=by kernel_rfl
theorem r9:(Rows.emptiesRow.laid.all fun x=>x.2.handleName?.isNone)=true:=by kernel_rfl
theorem KT:("internal/strconv.uint64pow10",Rows.laid_internal_strconv_uint64pow10)∈Rows.emptiesRow.laid:=List.Mem.tail _ (List.Mem.tail _ (List.Mem.head _))
theorem KU:("unicode/utf8.acceptRanges",Rows.laid_unicode_utf8_acceptRanges)∈Rows.emptiesRow.laid:=List.Mem.tail _ (List.Mem.tail _ (List.Mem.tail _ (List.Mem.head _)))
theorem KV:("unicode/utf8.first",Rows.laid_unicode_utf8_first)∈Rows.emptiesRow.laid:=List.Mem.tail _ (List.Mem.tail _ (List.Mem.tail _ (List.Mem.tail _ (List.Mem.tail _ (List.Mem.tail _ (List.Mem.tail _ (List.Mem.tail _ (List.Mem.tail _ (List.Mem.head _)))))))))
theorem KC (y:Os) (g:y.Started) (H:Type) (c:TypeId×Value→H):
  ReturnsInHanded {} Tryz.checked y 5 .any (fun w b=>(Rows.emptiesSpec.pre c Tryz.prog Tryz.f5 [] false w b∧laidMetH Tryz.prog Rows.emptiesRow.laid w)∧sizedMet c Tryz.prog Tryz.f5 (OpenSpec.ofChange Rows.emptiesSpec) false w b)
   (Rows.emptiesSpec.post c Tryz.prog Tryz.f5 false true false false):=by
 refine pe (C:=Tryz.checked) (X:=fun w _=>laidMetH Tryz.prog Rows.emptiesRow.laid w) (fun _ _ _ P h=>h.of_heap P) own g (by kernel_rfl) Tryz.func5
  (ChangeSpec.witness_shaped (enc:=c) (C:=Tryz.checked) (os:=y) (X:=fun w _=>laidMetH Tryz.prog Rows.emptiesRow.laid w) false (World.laidAll Tryz.prog y Rows.emptiesRow.laid) #[.slice none 0 0] 8 (World.laidAll_os _ _ _)
   (World.shaped_of_ZipB (by kernel_rfl) (by kernel_rfl)) (by kernel_rfl) (by kernel_rfl) (by kernel_rfl)
   (by rw [MakeChecks.laidMetH_plain _ _ _ r9];exact laidMet_laidAll _ (by kernel_rfl) (by kernel_rfl))) ?_
 intro W m b K V z f J _ E d D;rw [MakeChecks.laidMetH_plain _ _ _ r9] at d;have i:∀(j:Nat) t v,Tryz.f5.params[j]? =some t→b[j]? =some v→Value.okWide Tryz.prog W .any m t v:=f;have k:=J;obtain ⟨p,q,o,M,rfl,_,_⟩:=J;have I:DataW.TrodAll c Tryz.prog W 0 (fun _=>true) true Tryz.f5.params.toList b.toList K p:=o;rw [Tryz.params5] at I i;obtain ⟨T,U,rfl,rfl,G⟩:=trodAll_one I;obtain ⟨rfl,rfl⟩:=trodVars_none M;have A:=G;have r:∀x∈p,x.block < W.heap.size:=fun x S=>k.lt x (by simp [S]);obtain ⟨a,u,n,rfl⟩:=okWide_slice Tryz.underlying22 (i 0 22 T rfl rfl);obtain ⟨F,L⟩:=G;obtain ⟨v,l,N,s,Q,B⟩:=uR L (rD E (j:=0) rfl rfl)
 have R:Value.slice a u n=v:=by
  have e:[Value.slice a u n]=[v]:=N;exact List.cons.inj e |>.1
 subst R;have O:=EW d KT KU KV D;clear o f;refine (KB l _ W O s ⟨by omega,B⟩ (by omega)).mono fun e W' ⟨he,hb⟩=>?_;subst he;simp only [List.append_nil] at k;exact ⟨_,rfl,_,_,_,[],_,[],k,trodAll_mk1 (shut_bool Tryz.underlying4 _),trodAll_mk1 (Below.trod El (by kernel_rfl) (of_decide_eq_true (by kernel_rfl)) A hb r),rfl,hb.frame _,fun h=>by cases h⟩
end Go.Proofs.YtofpegbpgkkgkaaGreatDoor
