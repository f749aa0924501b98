import Derived.Test.YtponhohdpophlaaGreatDoorS13
namespace Go.Proofs.YtponhohdpophlaaGreatDoor
set_option maxHeartbeats 8000000
set_option maxRecDepth 1000000
open Go renaming heap_alloc_new->Q0,heap_setCell_same->Ro
open Go.IntKind renaming i64->J
open Go.Lib renaming cell_of_heap->Q3,frozen_of_heap->RJ
open Go.Obj renaming cells->YU
open Go.RowKit.Below renaming refl->QQ
open Go.Value renaming int->I,slice->L,string->T
open _root_.Array renaming getElem?_toList->Sl
open _root_.List renaming map_append->Sh,getElem?_take_of_lt->Sk,getElem?_take->UQ
open _root_.Nat renaming le_refl->QR,lt_or_ge->Tp
open _root_.Option renaming none->N,some->S
open Go.Proofs.Tryz
open Go.RowKit
theorem qk(l:QF)(w:QI)(d:l.length<=281474976710656):Calls prog 48 #[T (bs l)] w λe a=>e= .returned (T (bs l))/\Below w.heap.size w a:=by
 have c:=Tryz.stringslite_Clone (bs l) w (by rw [aj];exact d);go_enter func48,ntmps48;go_wp2_with fail
 refine c.mono ?_;rintro e a ⟨rfl,b⟩;go_wp2_with fail
 go_ret;exact ⟨rfl,b⟩
def gm(l:List (Nat×QF)):List QF:=l.map (·.2)
theorem Nl{D:Array QJ}{k n:Nat}{b:List QJ}{x:QJ}(e:D.size=n)(f:k < n)(d:b.length=k)(h:D.toList.take k=b):(D.setIfInBounds k x).toList.take (k+1)=b++[x]:=by
 apply List.ext_getElem?;intro j;rw [UQ]
 rcases Tp j k with c | c
 .rw [if_pos (by omega),List.getElem?_append_left (by omega),Sl,Array.getElem?_setIfInBounds_ne (by omega), <-h,UQ,if_pos c,Sl]
 rw [List.getElem?_append_right (by omega),d]
 rcases Tp j (k+1) with a | a
 .obtain rfl:j=k:=by omega
  rw [if_pos (by omega),Sl,Array.getElem?_setIfInBounds];simp;omega
 rw [if_neg (by omega),List.getElem?_eq_none (by simp;omega)]
structure TS(w:QI)(W:QI)(s n:Nat)(D:Array QJ)(xs:List QJ)(k:Nat):Prop where
 size:D.size=n
 take:D.toList.take k=xs
 row:W.heap[s+1]? =S (YU D 9 (0,0))
 xu:W.heap[s]? =S (YU #[I J 0,I J 0,T ⟨#[]⟩,L N 0 0,T ⟨#[]⟩] 91 (0,0))
 below:Below s w W
 yD:s+2<=W.heap.size
theorem TS.xo{w W b:QI}{s n k:Nat}{D:Array QJ}{c:List QJ}(h:TS w W s n D c k)(a:Below W.heap.size W b):TS w b s n D c k:=
 ⟨h.size,h.take,ae a h.row,ae a h.xu,h.below.trans (a.mono (by have:=h.yD;omega)),Nat.le_trans h.yD a.size⟩
theorem TS.put{w W:QI}{s n k:Nat}{D:Array QJ}{b:List QJ}(h:TS w W s n D b k)(c:k < n)(d:b.length=k)(x:QJ):TS w (W.setCell ⟨s+1,k,N⟩ x) s n (D.setIfInBounds k x) (b++[x]) (k+1):=by
 have a:aA (s+1) W (W.setCell ⟨s+1,k,N⟩ x):=(aA.refl _ _).setCell _;exact ⟨by simp [h.size],Nl h.size c d h.take,Ro W (s+1) k _ _ x h.row,bm a h.xu (by omega),h.below.trans (a.below (by omega)),by rw [a.1];exact h.yD⟩
theorem N4{w W c:QI}{l:List (Nat×QF)}{f b:Nat}{g a:QF}{D:Array QJ}(h:TS w W w.heap.size l.length D (ah (gm l)) l.length)
  (e:(((((W.setCell ⟨w.heap.size,0,N⟩ (I J f)).setCell ⟨w.heap.size,1,N⟩ (I J b)).setCell ⟨w.heap.size,2,N⟩ (T (bs g))).setCell ⟨w.heap.size,3,N⟩ (L (S ⟨w.heap.size+1,0,N⟩) l.length l.length)).setCell ⟨w.heap.size,4,N⟩ (T (bs a)))=c) (i:l.length<=255):
  c.heap[w.heap.size]? =S (YU #[I J f,I J b,T (bs g),L (S ⟨w.heap.size+1,0,N⟩) l.length l.length,T (bs a)] 91 (0,0))/\c.ownsRow w.heap.size 9 1 (L (S ⟨w.heap.size+1,0,N⟩) l.length l.length) l.length (ah (gm l))/\Below w.heap.size w c:=by
 have d:aA w.heap.size W c:=by rw [<-e];exact (((((aA.refl _ _).setCell _).setCell _).setCell _).setCell _).setCell _
 refine ⟨?_,⟨by simp [ah,gm],.inr ⟨w.heap.size+1,l.length,D,rfl,by omega,bm d h.row (by omega),QR _,by unfold maxLen;omega,by rw [h.size];omega,?_⟩⟩,h.below.trans (d.below (QR _))⟩
 .rw [<-e];exact Ro _ _ 4 _ _ _ (Ro _ _ 3 _ _ _ (Ro _ _ 2 _ _ _ (Ro _ _ 1 _ _ _ (Ro _ _ 0 _ _ _ h.xu))))
 rw [Nat.mul_one,h.take]
theorem N3(Z q id f:Nat)(r d:QF)(v:QJ)(l:List (Nat×QF))(x:Int×Int)(w:QI)(h:gf w q f r v d x)(hv:w.ownsRow Z 218 2 v l.length (cI l))(hl:l.length<=255)(hf:r.length<=255)(c8:d.length<=1048576)(hn:∀x∈l,x.2.length<=255):Calls prog 118 #[.pointer (S ⟨q,0,N⟩),I J id] w λe A=>∃g,e= .returned (.agg (bh ⟨id,f,r,gm l,d⟩ (L (S ⟨g,0,N⟩) l.length l.length)))/\w.heap.size<=g/\A.ownsRow w.heap.size 9 1 (L (S ⟨g,0,N⟩) l.length l.length) l.length (ah (gm l))/\Below w.heap.size w A:=by
 have HV:=K hv;have HH:=K h
 obtain ⟨E,O,rfl⟩:∃a c,v=L a l.length c:=by
  rcases hv.2 with ⟨e,h0⟩ | ⟨g,c7,b6,e,_⟩
  .exact ⟨_,_,by rw [h0];exact e⟩
  exact ⟨_,_,e⟩
 have a2:=λA=>Dt (P:=prog) underlying30 kj l.length (by omega) (by omega) A;obtain ⟨C,eC⟩:=QE (madeCells (T ⟨#[]⟩).cells (l.length * 1));have a0:C.size=l.length:=by rw [<-eC];simp [madeCells]
 rw [eC] at a2;obtain ⟨W0,n⟩:=QE ((w.alloc (YU #[I J 0,I J 0,T ⟨#[]⟩,L N 0 0,T ⟨#[]⟩] 91)).alloc (YU C 9))
 have T0:Hid (TS w W0 w.heap.size l.length C [] 0):=K ⟨a0,rfl,by
   rw [<-n];have:=Q0 (w.alloc (YU #[I J 0,I J 0,T ⟨#[]⟩,L N 0 0,T ⟨#[]⟩] 91)) (YU C 9);simpa using this,by
   rw [<-n];exact ae ((QQ _ _).alloc (QR _) _) (Q0 w _),by
   rw [<-n]
   exact ((QQ _ _).alloc (QR _) _).alloc (by simp) _,by rw [<-n];simp⟩
 have c5:q < w.heap.size:=dq h
 have k0:∀o:Obj,(w.alloc o).cell? ⟨q,2,N⟩=S (L E l.length O):=λo=>by
  rw [Q3 (ae ((QQ _ w).alloc (QR _) o) h)];rfl
 have k1:∀o o':Obj,((w.alloc o).alloc o').cell? ⟨q,2,N⟩=S (L E l.length O):=λo o'=>by
  rw [Q3 (ae ((QQ _ (w.alloc o)).alloc (QR _) o') (ae ((QQ _ w).alloc (QR _) o) h))];rfl
 have b2:=K n;clear h hv n;go_enter func118,ntmps118;go_wp2_with fail
 rw [b2.out];have b0:Hid (∀x∈l,x.2.length<=255):=K hn;clear k0 k1 hn a2;go_loopw [6,7,19] (λ_ _ i A=>∃(k:Nat) (D:Array QJ),k<=l.length/\i=I J k/\Hid (TS w A w.heap.size l.length D (ah (gm (l.take k))) k)) (λ_ _ i _=>l.length - (intOf i).toNat)
 case atStart=>exact ⟨0,C,Nat.zero_le _,rfl,T0⟩
 case round=>
  clear T0 a0 eC;obtain ⟨k,D,hk,rfl,HT⟩:=hrel
  by_cases t:k < l.length
  .have c6:(k:Int) < (l.length:Int):=by omega
   obtain ⟨g,rfl,c0,c1⟩:∃g,E=S ⟨g,0,N⟩/\w.cell? ⟨g,k * 2,N⟩=S (I J (l[k].1:Int))/\w.cell? ⟨g,k * 2+1,N⟩=S (T (bs l[k].2)):=by
    rcases HV.out.2 with ⟨_,h0⟩ | ⟨g,cp,b6,e,_,hg,_,_,_,a3⟩
    .omega
    injection e with e1 _ _;refine ⟨g,e1,?_,?_⟩
    .rw [Q3 hg, <-Sl, <-Sk (show k * 2 < l.length * 2 by omega),a3];exact (jF l k t).1
    rw [Q3 hg, <-Sl, <-Sk (show k * 2+1 < l.length * 2 by omega),a3];exact (jF l k t).2
   have d0:wr.cell? ⟨g,k * 2,N⟩=S (I J (l[k].1:Int)):=(HT.out.below.cell (by exact au c0)).trans c0;have d1:wr.cell? ⟨g,k * 2+1,N⟩=S (T (bs l[k].2)):=(HT.out.below.cell (by exact au c1)).trans c1;have a4:=b0.out l[k] (List.getElem_mem t);have B:Hid (ah (gm (l.take (k+1)))=ah (gm (l.take k))++[T (bs l[k].2)]):=K (by rw [List.take_succ_eq_append_getElem t];unfold gm ah;rw [Sh,Sh];rfl);have b4:Hid ((ah (gm (l.take k))).length=k):=K (by simp [gm,ah];omega);obtain ⟨x,ex⟩:=QE (l[k]);rw [ex] at d0 d1 a4 B;obtain ⟨P,b⟩:=x;simp only at d0 d1 a4 B;obtain ⟨W1,G⟩:=QE (wr.alloc (YU #[I J (P:Int),T (bs b)] 218));have B1:=QG G;have T1:=K (HT.out.xo B1);have b3:=K G;have a8:=K (qk b W1 (by omega));clear ex c0 c1 HT B1 G;go_wp2_with fail
   rw [b3.out];refine a8.out.mono ?_;rintro e w2 ⟨rfl,a1⟩;have Y:=T1.out.xo a1;have x0:∃u,w2.cell? ⟨w.heap.size+1,k,N⟩=S u:=by rw [Q3 Y.row];exact ⟨_,Array.getElem?_eq_getElem (by have:=Y.size;omega)⟩
   obtain ⟨u0,x0⟩:=x0;have y0:=RJ Y.row k;have T3:=K (Y.put t b4.out (T (bs b)));clear Y a1;go_wp2_with fail
   exact ⟨⟨k+1,_,by omega,by go_num,K (by rw [B.out];exact T3.out)⟩,by simp [intOf];omega⟩
  have b7:k=l.length:=by omega
  subst b7;rw [List.take_length] at HT;have hP:gf wr q f r (L E l.length O) d x:=(HT.out.below.block q c5).trans HH.out;have p0:wr.drew.cell? ⟨q,0,N⟩=S (I J f):=by show wr.cell? _=_;rw [Q3 hP];rfl
  have p1:wr.drew.cell? ⟨q,1,N⟩=S (T (bs r)):=by show wr.cell? _=_;rw [Q3 hP];rfl
  have p3:wr.drew.cell? ⟨q,3,N⟩=S (T (bs d)):=by show wr.cell? _=_;rw [Q3 hP];rfl
  have b1:=K (HT.out.xo ((QQ _ _).drew));have a9:Hid (gf wr.drew q f r (L E l.length O) d x):=K hP;have a7:=K (qk r wr.drew (by omega));have a6:Hid (∀W:QI,Calls prog 48 #[T (bs d)] W λe A=>e= .returned (T (bs d))/\Below W.heap.size W A):=K (λW=>qk d W (by omega));clear hP HT;go_wp2_with fail
  go_region_law (first
   | (go_simp;go_at_call 48;refine a7.out.mono ?_;rintro e w9 ⟨rfl,M⟩;have T9:=K (b1.out.xo M);have P9:Hid (gf w9 q f r (L E l.length O) d x):=K (ae M a9.out);have c9:w9.cell? ⟨q,0,N⟩=S (I J f):=(Q3 P9.out _);have d2:w9.cell? ⟨q,3,N⟩=S (T (bs d)):=(Q3 P9.out _);clear M)
   | (go_simp;go_at_call 48;refine (a6.out w9).mono ?_;rintro e j ⟨rfl,s⟩;have p:=T9.out.xo s;have X:gf j q f r (L E l.length O) d x:=ae s P9.out;have a5:j.cell? ⟨q,0,N⟩=S (I J f):=(Q3 X _);have m0:j.cell? ⟨w.heap.size,0,N⟩=S (I J 0):=(Q3 p.xu _);have m1:j.cell? ⟨w.heap.size,1,N⟩=S (I J 0):=(Q3 p.xu _);have m2:j.cell? ⟨w.heap.size,2,N⟩=S (T ⟨#[]⟩):=(Q3 p.xu _);have m3:j.cell? ⟨w.heap.size,3,N⟩=S (L N 0 0):=(Q3 p.xu _);have m4:j.cell? ⟨w.heap.size,4,N⟩=S (T ⟨#[]⟩):=(Q3 p.xu _);have n0:=RJ p.xu 0;have n1:=RJ p.xu 1;have n2:=RJ p.xu 2;have n3:=RJ p.xu 3;have n4:=RJ p.xu 4;have b5:=K p;clear s p X))
  all_goals
   obtain ⟨z,y⟩:=QE ((((((j.setCell ⟨w.heap.size,0,N⟩ (I J id)).setCell ⟨w.heap.size,1,N⟩ (I J f)).setCell ⟨w.heap.size,2,N⟩ (T (bs r))).setCell ⟨w.heap.size,3,N⟩ (L (S ⟨w.heap.size+1,0,N⟩) l.length l.length)).setCell ⟨w.heap.size,4,N⟩ (T (bs d))));rw [y];obtain ⟨m,V,Q⟩:=N4 b5.out y hl;have c0:z.cell? ⟨w.heap.size,0,N⟩=S (I J id):=Q3 m _;have c1:z.cell? ⟨w.heap.size,1,N⟩=S (I J f):=Q3 m _;have c2:z.cell? ⟨w.heap.size,2,N⟩=S (T (bs r)):=Q3 m _;have c3:z.cell? ⟨w.heap.size,3,N⟩=S (L (S ⟨w.heap.size+1,0,N⟩) l.length l.length):=Q3 m _;have c4:z.cell? ⟨w.heap.size,4,N⟩=S (T (bs d)):=Q3 m _;have U:=K V;have R:=K Q;clear y m V Q m0 m1 m2 m3 m4 n0 n1 n2 n3 n4 a5 p0 p1 p3;go_wp2_with fail
   refine bodyPost_ret (v:= .agg #[I J id,I J f,T (bs r),L (S ⟨w.heap.size+1,0,N⟩) l.length l.length,T (bs d)]) (by simp [results,results118,go_sem,c0,c1,c2,c3,c4]) rfl ?_;exact ⟨w.heap.size+1,rfl,by omega,U.out,R.out⟩
end Go.Proofs.YtponhohdpophlaaGreatDoor
