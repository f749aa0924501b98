import Derived.Test.YtofpegbpgkkgkaaGreatDoorS13
import Derived.Test.YtofpegbpgkkgkaaGreatDoorS20
namespace Go.Proofs.YtofpegbpgkkgkaaGreatDoor
set_option maxHeartbeats 8000000
set_option maxRecDepth 1000000
open Go.RowKit
theorem wQ {A:Nat→Prop} {B:Nat} {a b:World} (h:aF A a b) (c:∀k,A k→B≤k) (d:B≤a.heap.size):Below B a b:=
 ⟨h.still.1,h.still.2.1,h.still.2.2,h.size,fun k f=>h.block k (by omega) (fun e=>by have:=c k e;omega)⟩
structure WR (B:Nat) (w w':World) (v:Value) (acc:List UInt8):Prop where
 row:dH w' v acc
 own:∀k,v.ownBlock=some k→B≤k
 below:Below B w w'
theorem WR.le {B:Nat} {w b:World} {v:Value} {a:List UInt8} (h:WR B w b v a) (c:B≤w.heap.size):B≤b.heap.size:=Nat.le_trans c h.below.size
theorem WR.step {B:Nat} {w w' b:World} {v d:Value} {c a:List UInt8} (h:WR B w w' v c) (f:B≤w.heap.size) (j:dH b d a) (g:aF (fun k=>v.ownBlock=some k) w' b) (i:∀k,d.ownBlock=some k→v.ownBlock=some k∨w'.heap.size≤k):WR B w b d a:=
 ⟨j,fun k e=>(i k e).elim (h.own k) (fun e=>Nat.le_trans (h.le f) e),h.below.trans (wQ g h.own (h.le f))⟩
theorem tR (l:List (List UInt8)) (h:∀t∈l,t.length≤255):(fo l).length≤256 * l.length:=by
 induction l with
 | nil=>simp [fo]
 | cons t l ih=>
  have b:=ih (fun x a=>h x (List.mem_cons_of_mem _ a));have c:=h t (List.mem_cons_self ..);have e:fo (t::l)=jy t++fo l:=by simp [fo]
  rw [e,List.length_append,jy,List.length_append,bq,List.length_cons];omega
theorem nK (n d:Nat) (f:List UInt8) (a:List (List UInt8)) (c:List UInt8) (v:Value) (w:World) (h:aZ w v a.length 1 (az a)) (hz:dq ⟨n,d,f,a,c⟩):
  Calls Tryz.prog 233 #[.agg #[.int .i64 n,.int .i64 d,.string (bs f),v,.string (bs c)]] w fun e w'=>e= .returned (.string (bs (dd ⟨n,d,f,a,c⟩)))∧Below w.heap.size w w':=by
 obtain ⟨z1,z2,z3,z4,z5,z6⟩:=hz;simp only at z1 z2 z3 z4 z5 z6;obtain ⟨L,M,rfl,p⟩:=h.one;have HV:=Lib.hid p;have Q:=Lib.hid z5;obtain ⟨m,q⟩:∃m:World,w.alloc (.cells #[.int .i64 n,.int .i64 d,.string (bs f),.slice L a.length M,.string (bs c)] 45)=m:=⟨_,rfl⟩;have B0:Below w.heap.size w m:=by rw [←q];exact (Below.refl _ _).alloc (Nat.le_refl _) _
 have X0:m.heap[w.heap.size]? =some (.cells #[.int .i64 n,.int .i64 d,.string (bs f),.slice L a.length M,.string (bs c)] 45 (0,0)):=by rw [←q];exact heap_alloc_new w _
 have b7:m.heap.size=w.heap.size+1:=by rw [←q];simp
 have a8:=Lib.run_convert_bytes_const (P:=Tryz.prog) m 114 5 #[.int .u8 77] 1 1 Tryz.underlying114 Tryz.underlying5;have B1:Below m.heap.size m (m.alloc (.cells #[.int .u8 77] 5 (1,2))):=(Below.refl _ _).alloc (Nat.le_refl _) _;have R1:dH (m.alloc (.cells #[.int .u8 77] 5 (1,2))) (.slice (some ⟨m.heap.size,0,none⟩) 1 1) [77]:= .inr ⟨m.heap.size,1,#[.int .u8 77],(1,2),rfl,heap_alloc_new m _,.inr (Nat.le_refl _),Nat.le_refl _,by unfold maxLen;decide,rfl,rfl⟩
 obtain ⟨U,J⟩:∃U:World,m.alloc (.cells #[.int .u8 77] 5 (1,2))=U:=⟨_,rfl⟩;rw [show (#[Value.int .u8 77]:Array Value).size=1 from rfl,J] at a8;rw [J] at R1 B1;rw [b7] at a8 R1;have S1:WR (w.heap.size+1) m U (.slice (some ⟨w.heap.size+1,0,none⟩) 1 1) [77]:=⟨R1,fun k e=>by injection e with e;have e:w.heap.size+1=k:=e;omega,B1.mono (by omega)⟩
 have hf:=aI f;have d3:=aI c;have d2:=Lib.hid X0;have N:=Lib.hid B0;have d1:=Lib.hid q;have y:=Lib.hid S1;have u:∀{W:World},Below (w.heap.size+1) m W→W.heap[w.heap.size]? =some (.cells #[.int .i64 n,.int .i64 d,.string (bs f),.slice L a.length M,.string (bs c)] 45 (0,0)):=fun hb=>(hb.block _ (by omega)).trans X0;have K:Hid (∀W:World,Below (w.heap.size+1) m W→W.heap[w.heap.size]? =some (.cells #[.int .i64 n,.int .i64 d,.string (bs f),.slice L a.length M,.string (bs c)] 45 (0,0))):=Lib.hid (fun W hb=>u hb);have i0:U.cell? ⟨w.heap.size,0,none⟩=some (.int .i64 n):=by rw [Lib.cell_of_heap (K.out _ S1.below)];rfl
 clear h p z5 X0 B0 R1 B1 S1 u J;go_enter Tryz.func233,Tryz.ntmps233;go_wp2_with fail
 refine (du _ [77] n 4 U y.out.row (by simp) z1 (by omega)).mono ?_;rintro e w2 ⟨v2,rfl,R2,K2,O2⟩;have Y:([77]++aB 4 n).length≤5:=by rw [List.length_append];simp only [bq,List.length_cons,List.length_nil];omega
 obtain ⟨A2,E⟩:∃A,[77]++aB 4 n=A:=⟨_,rfl⟩;rw [E] at R2 Y;have S2:=y.out.step (by omega) R2 K2 O2;obtain ⟨a2,c2,rfl⟩:=R2.len;have z:=Lib.hid S2;have b0:=Lib.hid E;have i2:w2.cell? ⟨w.heap.size,1,none⟩=some (.int .i64 d):=by rw [Lib.cell_of_heap (K.out _ S2.below)];rfl
 clear R2 K2 O2 S2 E y;go_wp2_with fail
 refine (du _ A2 d 4 w2 z.out.row (by omega) z2 (by omega)).mono ?_;rintro e w3 ⟨v3,rfl,R3,K3,O3⟩;have Z:(A2++aB 4 d).length≤9:=by rw [List.length_append];simp only [bq];omega
 obtain ⟨A3,F⟩:∃A,A2++aB 4 d=A:=⟨_,rfl⟩;rw [F] at R3 Z;have S3:=z.out.step (by omega) R3 K3 O3;obtain ⟨a3,c3,rfl⟩:=R3.len;have B:=Lib.hid S3;have b1:=Lib.hid F;have i3:w3.cell? ⟨w.heap.size,2,none⟩=some (.string (bs f)):=by rw [Lib.cell_of_heap (K.out _ S3.below)];rfl
 clear R3 K3 O3 S3 F z;go_wp2_with fail
 refine (km _ A3 f 1 w3 B.out.row (by omega) (by omega) (by omega)).mono ?_;rintro e w4 ⟨v4,rfl,R4,K4,O4⟩;have a0:(A3++(aB 1 f.length++f)).length≤300:=by rw [List.length_append];simp only [List.length_append,bq];omega
 obtain ⟨A4,G⟩:∃A,A3++(aB 1 f.length++f)=A:=⟨_,rfl⟩;rw [G] at R4 a0;have S4:=B.out.step (by omega) R4 K4 O4;obtain ⟨a4,c4,rfl⟩:=R4.len;have C:=Lib.hid S4;have b2:=Lib.hid G;have i4:w4.cell? ⟨w.heap.size,3,none⟩=some (.slice L a.length M):=by rw [Lib.cell_of_heap (K.out _ S4.below)];rfl
 clear R4 K4 O4 S4 G B;go_wp2_with fail
 refine (du _ A4 a.length 1 w4 C.out.row (by omega) (by omega) (by omega)).mono ?_;rintro e w5 ⟨v5,rfl,R5,K5,O5⟩;have a1:(A4++aB 1 a.length).length≤301:=by rw [List.length_append];simp only [bq];omega
 obtain ⟨A5,H⟩:∃A,A4++aB 1 a.length=A:=⟨_,rfl⟩;rw [H] at R5 a1;have S5:=C.out.step (by omega) R5 K5 O5;obtain ⟨a5,c5,rfl⟩:=R5.len;have b4:=Lib.hid S5;have b3:=Lib.hid H;have i5:w5.cell? ⟨w.heap.size,3,none⟩=some (.slice L a.length M):=by rw [Lib.cell_of_heap (K.out _ S5.below)];rfl
 clear R5 K5 O5 S5 H C;go_wp2_with fail
 go_loopw [3,28] (fun b i w'=>∃k:Nat,k≤a.length∧i= .int .i64 k∧Hid (WR (w.heap.size+1) m w' b (A5++fo (a.take k)))) (fun _ i _=>a.length - (intOf i).toNat)
 case atStart=>
  refine ⟨0,Nat.zero_le _,rfl,Lib.hid ?_⟩;rw [List.take_zero,show fo []=[] from rfl,List.append_nil];exact b4.out
 case round=>
  obtain ⟨k,hk,rfl,o⟩:=hrel
  have b8:(fo (a.take k)).length≤256 * k:=by
   have:=tR (a.take k) (fun t ht=>Q.out t (List.mem_of_mem_take ht));rw [List.length_take] at this;omega
  by_cases r:k < a.length
  ·have c9:(k:Int) < (a.length:Int):=by omega
   obtain ⟨g,c8,rfl,b5,c0⟩:=HV.out k r;rw [dh a k r] at c0;have d0:wr.cell? ⟨g,c8+k,none⟩=some (.string (bs a[k])):=((N.out.trans (o.out.below.mono (by omega))).cell (by exact b5)).trans c0;have HT:Hid (fo (a.take (k+1))=fo (a.take k)++jy a[k]):=Lib.hid (Am a k r);have c1:=Q.out a[k] (List.getElem_mem r);obtain ⟨t,et⟩:∃t,a[k]=t:=⟨_,rfl⟩;rw [et] at d0 HT c1;obtain ⟨l,j⟩:∃l,A5++fo (a.take k)=l:=⟨_,rfl⟩;have X:l.length≤301+256 * k:=by rw [←j,List.length_append];omega
   have HN:Hid (A5++fo (a.take (k+1))=l++(aB 1 t.length++t)):=Lib.hid (by rw [HT.out,←List.append_assoc,j];rfl);rw [j] at o;obtain ⟨a6,c6,I⟩:=o.out.row.len;subst I;have x:=Lib.hid (km _ l t 1 wr o.out.row (by omega) (by omega) (by omega));clear c0 et j HT;go_wp2_with fail
   refine x.out.mono ?_;rintro e w7 ⟨v7,rfl,s,R,S⟩;have T:=o.out.step (by omega) s R S;have D:=Lib.hid T;clear s R S T;go_wp2_with fail
   exact ⟨⟨k+1,by omega,by go_num,by rw [HN.out];exact D⟩,by simp [intOf];omega⟩
  ·have b6:k=a.length:=by omega
   subst b6;rw [List.take_length] at o b8;obtain ⟨l,j⟩:∃l,A5++fo a=l:=⟨_,rfl⟩;have X:l.length≤301+256 * a.length:=by rw [←j,List.length_append];omega
   rw [j] at o
   have hE:dd ⟨n,d,f,a,c⟩=l++(aB 2 c.length++c):=by
    rw [←j,←b3.out,←b2.out,←b1.out,←b0.out];simp [dd,jy]
   obtain ⟨a6,c6,I⟩:=o.out.row.len;subst I;have i6:wr.cell? ⟨w.heap.size,4,none⟩=some (.string (bs c)):=by rw [Lib.cell_of_heap (K.out _ o.out.below)];rfl
   have x:=Lib.hid (km _ l c 2 wr o.out.row (by omega) (by omega) (by omega));have O:=Lib.hid hE;clear j hE;go_wp2_with fail
   refine x.out.mono ?_;rintro e w7 ⟨v7,rfl,s,R,S⟩;have T:=o.out.step (by omega) s R S;have a9:=s.string;obtain ⟨A7,V⟩:∃A,l++(aB 2 c.length++c)=A:=⟨_,rfl⟩;rw [V] at a9 O s;obtain ⟨a7,c7,rfl⟩:=s.len;have D:=Lib.hid T;clear s R S T V;go_wp2_with fail
   go_ret;exact ⟨by rw [O.out];rfl,N.out.trans (D.out.below.mono (by omega))⟩
structure IK (w0:World) (b0:Nat) (C:Array Value) (W:World) (v:Value) (a:List UInt8):Prop where
 wr:WR w0.heap.size w0 W v a
 ne:v.ownBlock≠some b0
 blk:W.heap[b0]? =some (.cells C 193 (0,0))
theorem IK.step {l W c:World} {b:Nat} {C:Array Value} {v f:Value} {a g:List UInt8} (h:IK l b C W v a) (m:dH c f g) (i:aF (fun k=>v.ownBlock=some k) W c) (j:∀k,f.ownBlock=some k→v.ownBlock=some k∨W.heap.size≤k):IK l b C c f g:=by
 have d:b < W.heap.size:=ah h.blk;refine ⟨h.wr.step (Nat.le_refl _) m i j,fun e=>?_,(i.block b d h.ne).trans h.blk⟩
 rcases j _ e with e | e
 ·exact h.ne e
 ·omega
theorem kf (s w:World) (v vp:Value) (c:List UInt8) (d:Nat) (a:List Nat) (r:WR s.heap.size s w v c) (hp:aZ s vp a.length 1 (aX a)) (hl:c.length≤1000) (W:d≤4294967295) (hn:a.length≤100) (D:∀x∈a,x≤255):
  Calls Tryz.prog 175 #[v,.agg #[.int .i64 d,vp]] w fun e w'=>∃v',e= .returned v'∧WR s.heap.size s w' v' (c++aY d a):=by
 obtain ⟨t,u,rfl,f⟩:=hp.one;have HV:=Lib.hid f;have M:=Lib.hid D;have Z:=r.below.size;obtain ⟨o,z⟩:∃o:World,w.alloc (.cells #[.int .i64 d,.slice t a.length u] 193)=o:=⟨_,rfl⟩;have I:Below w.heap.size w o:=by rw [←z];exact (Below.refl _ _).alloc (Nat.le_refl _) _
 have S:o.heap[w.heap.size]? =some (.cells #[.int .i64 d,.slice t a.length u] 193 (0,0)):=by rw [←z];exact heap_alloc_new w _
 have S1:IK s w.heap.size #[.int .i64 d,.slice t a.length u] o v c:=⟨⟨r.row.below I,r.own,r.below.trans (I.mono Z)⟩,fun e=>by have:=r.row.lt e;omega,S⟩
 obtain ⟨a1,c1,rfl⟩:=r.row.len;have i0:o.cell? ⟨w.heap.size,0,none⟩=some (.int .i64 d):=by rw [Lib.cell_of_heap S];rfl
 have m:=Lib.hid S1;clear hp f D S I S1 r;go_enter Tryz.func175,Tryz.ntmps175;go_wp2_with fail
 refine (du _ c d 4 o m.out.wr.row (by omega) W (by omega)).mono ?_;rintro e w2 ⟨v2,rfl,F,K2,O2⟩;have B:(c++aB 4 d).length≤1004:=by rw [List.length_append,bq];omega
 obtain ⟨H,p⟩:∃A,c++aB 4 d=A:=⟨_,rfl⟩;rw [p] at F B;have Q:=m.out.step F K2 O2;obtain ⟨a2,c2,rfl⟩:=F.len;have n:=Lib.hid Q;have K:=Lib.hid p;have i2:w2.cell? ⟨w.heap.size,1,none⟩=some (.slice t a.length u):=by rw [Lib.cell_of_heap Q.blk];rfl
 clear F K2 O2 Q p m i0;go_wp2_with fail
 refine (du _ H a.length 1 w2 n.out.wr.row (by omega) (by omega) (by omega)).mono ?_;rintro e w3 ⟨v3,rfl,G,K3,O3⟩;have C:(H++aB 1 a.length).length≤1005:=by rw [List.length_append,bq];omega
 obtain ⟨E,q⟩:∃A,H++aB 1 a.length=A:=⟨_,rfl⟩;rw [q] at G C;have R:=n.out.step G K3 O3;obtain ⟨a3,c3,rfl⟩:=G.len;have N:=Lib.hid R;have L:=Lib.hid q;have i3:w3.cell? ⟨w.heap.size,1,none⟩=some (.slice t a.length u):=by rw [Lib.cell_of_heap R.blk];rfl
 clear G K3 O3 R q n i2;go_wp2_with fail
 go_loopw [0,19] (fun b i w'=>∃k:Nat,k≤a.length∧i= .int .i64 k∧Hid (IK s w.heap.size #[.int .i64 d,.slice t a.length u] w' b (E++fj (a.take k)))) (fun _ i _=>a.length - (intOf i).toNat)
 case atStart=>
  refine ⟨0,Nat.zero_le _,rfl,Lib.hid ?_⟩;rw [List.take_zero,show fj []=[] from rfl,List.append_nil];exact N.out
 case round=>
  obtain ⟨k,hk,rfl,l⟩:=hrel;have a7:(fj (a.take k)).length≤k:=by rw [iI,List.length_take];omega
  by_cases j:k < a.length
  ·have a4:(k:Int) < (a.length:Int):=by omega
   obtain ⟨g,a0,rfl,V,T⟩:=HV.out k j;rw [lk a k j] at T;have d0:wr.cell? ⟨g,a0+k,none⟩=some (.int .i64 (a[k]:Nat)):=(l.out.wr.below.cell (by exact V)).trans T;have P:Hid (fj (a.take (k+1))=fj (a.take k)++aB 1 a[k]):=Lib.hid (xO a k j);have Y:=M.out a[k] (List.getElem_mem j);obtain ⟨x,ex⟩:∃x,a[k]=x:=⟨_,rfl⟩;rw [ex] at d0 P Y;obtain ⟨y,h⟩:∃y,E++fj (a.take k)=y:=⟨_,rfl⟩;have a5:y.length≤1005+k:=by rw [←h,List.length_append];omega
   have HN:Hid (E++fj (a.take (k+1))=y++aB 1 x):=Lib.hid (by rw [P.out,←List.append_assoc,h]);rw [h] at l;obtain ⟨a6,c6,U⟩:=l.out.wr.row.len;subst U;have J:=Lib.hid (du _ y x 1 wr l.out.wr.row (by omega) (by omega) (by omega));clear T ex h P;go_wp2_with fail
   refine J.out.mono ?_;rintro e w7 ⟨v7,rfl,R7,K7,O7⟩;have O:=Lib.hid (l.out.step R7 K7 O7);clear R7 K7 O7;go_wp2_with fail
   exact ⟨⟨k+1,by omega,by go_num,by rw [HN.out];exact O⟩,by simp [intOf];omega⟩
  ·have X:k=a.length:=by omega
   subst X;rw [List.take_length] at l;have HE:Hid (c++aY d a=E++fj a):=Lib.hid (by rw [←L.out,←K.out];simp [aY]);go_wp2_with fail
   go_ret;exact ⟨_,rfl,by rw [HE.out];exact l.out.wr⟩
theorem ve (E:Value) (c:Nat) (b:List Nat) (w:World) (u:aZ w E b.length 1 (aX b)) (t:c≤4294967295) (I:b.length≤100) (l:∀x∈b,x≤255):
  Calls Tryz.prog 171 #[.agg #[.int .i64 c,E]] w fun e J=>e= .returned (.string (bs (71::aY c b)))∧Below w.heap.size w J:=by
 obtain ⟨n,o,rfl,_⟩:=u.one;obtain ⟨a,d⟩:∃a:World,w.alloc (.cells #[.int .i64 c,.slice n b.length o] 193)=a:=⟨_,rfl⟩;have p:Below w.heap.size w a:=by rw [←d];exact (Below.refl _ _).alloc (Nat.le_refl _) _
 have C:a.heap[w.heap.size]? =some (.cells #[.int .i64 c,.slice n b.length o] 193 (0,0)):=by rw [←d];exact heap_alloc_new w _
 have v:a.heap.size=w.heap.size+1:=by rw [←d];simp
 have j:=Lib.run_convert_bytes_const (P:=Tryz.prog) a 114 5 #[.int .u8 71] 1 1 Tryz.underlying114 Tryz.underlying5;have m:Below a.heap.size a (a.alloc (.cells #[.int .u8 71] 5 (1,2))):=(Below.refl _ _).alloc (Nat.le_refl _) _;have s:dH (a.alloc (.cells #[.int .u8 71] 5 (1,2))) (.slice (some ⟨a.heap.size,0,none⟩) 1 1) [71]:= .inr ⟨a.heap.size,1,#[.int .u8 71],(1,2),rfl,heap_alloc_new a _,.inr (Nat.le_refl _),Nat.le_refl _,by unfold maxLen;decide,rfl,rfl⟩
 obtain ⟨f,h⟩:∃f:World,a.alloc (.cells #[.int .u8 71] 5 (1,2))=f:=⟨_,rfl⟩;rw [show (#[Value.int .u8 71]:Array Value).size=1 from rfl,h] at j;rw [h] at s m;have B:WR a.heap.size a f (.slice (some ⟨a.heap.size,0,none⟩) 1 1) [71]:=⟨s,fun k e=>by injection e with e;have e:a.heap.size=k:=e;omega,m⟩
 have y:f.heap[w.heap.size]? =some (.cells #[.int .i64 c,.slice n b.length o] 193 (0,0)):=(m.block _ (by omega)).trans C;have M:f.cell? ⟨w.heap.size,0,none⟩=some (.int .i64 c):=by rw [Lib.cell_of_heap y];rfl
 have N:f.cell? ⟨w.heap.size,1,none⟩=some (.slice n b.length o):=by rw [Lib.cell_of_heap y];rfl
 have z:=Lib.hid (kf a f _ _ [71] c b B (u.below p) (by simp) t I l);have q:=Lib.hid p;rw [v] at j z;have H:=Lib.hid d;clear u l C p s m B h y;go_enter Tryz.func171,Tryz.ntmps171;go_wp2_with fail
 refine z.out.mono ?_;rintro e Q ⟨O,rfl,i⟩;have r:=Lib.hid (q.out.trans (i.below.mono (by omega)));obtain ⟨F,g⟩:∃A,[71]++aY c b=A:=⟨_,rfl⟩;have G:Hid (71::aY c b=F):=Lib.hid g;rw [g] at i;have D:=i.row.string;obtain ⟨K,L,rfl⟩:=i.row.len;clear i g;go_wp2_with fail
 go_ret;exact ⟨by rw [G.out];rfl,r.out⟩
theorem rk (R:Value) (a d:Nat) (c:List Nat) (w:World) (I:aZ w R c.length 1 (aX c)) (Y:a≤4294967295) (H:d≤4294967295) (X:c.length≤100) (o:∀x∈c,x≤255):
  Calls Tryz.prog 124 #[.int .i64 a,.agg #[.int .i64 d,R]] w fun e w'=>e= .returned (.string (bs (70::(aB 4 a++aY d c))))∧Below w.heap.size w w':=by
 obtain ⟨r,s,rfl,_⟩:=I.one;obtain ⟨b,g⟩:∃b:World,w.alloc (.cells #[.int .i64 d,.slice r c.length s] 193)=b:=⟨_,rfl⟩;have v:Below w.heap.size w b:=by rw [←g];exact (Below.refl _ _).alloc (Nat.le_refl _) _
 have O:b.heap[w.heap.size]? =some (.cells #[.int .i64 d,.slice r c.length s] 193 (0,0)):=by rw [←g];exact heap_alloc_new w _
 have j:b.heap.size=w.heap.size+1:=by rw [←g];simp
 have n:=Lib.run_convert_bytes_const (P:=Tryz.prog) b 114 5 #[.int .u8 70] 1 1 Tryz.underlying114 Tryz.underlying5;have y:Below b.heap.size b (b.alloc (.cells #[.int .u8 70] 5 (1,2))):=(Below.refl _ _).alloc (Nat.le_refl _) _;have p:dH (b.alloc (.cells #[.int .u8 70] 5 (1,2))) (.slice (some ⟨b.heap.size,0,none⟩) 1 1) [70]:= .inr ⟨b.heap.size,1,#[.int .u8 70],(1,2),rfl,heap_alloc_new b _,.inr (Nat.le_refl _),Nat.le_refl _,by unfold maxLen;decide,rfl,rfl⟩
 obtain ⟨q,i⟩:∃q:World,b.alloc (.cells #[.int .u8 70] 5 (1,2))=q:=⟨_,rfl⟩;rw [show (#[Value.int .u8 70]:Array Value).size=1 from rfl,i] at n;rw [i] at p y;have N:WR b.heap.size b q (.slice (some ⟨b.heap.size,0,none⟩) 1 1) [70]:=⟨p,fun k e=>by injection e with e;have e:b.heap.size=k:=e;omega,y⟩
 have F:=Lib.hid N;have G:=Lib.hid O;have C:=Lib.hid (I.below v);have D:=Lib.hid o;have E:=Lib.hid (du _ [70] a 4 q p (by simp) Y (by omega));have z:=Lib.hid v;rw [j] at n E;have V:=Lib.hid g;clear I o O v p y N i;go_enter Tryz.func124,Tryz.ntmps124;go_wp2_with fail
 refine E.out.mono ?_;rintro e t ⟨Z,rfl,M,K,L⟩;have l:=F.out.step (Nat.le_refl _) M (by rw [j];exact K) (by rw [j];exact L);obtain ⟨u,f⟩:∃A,[70]++aB 4 a=A:=⟨_,rfl⟩;have W:u.length≤5:=by rw [←f,List.length_append,bq];simp
 rw [f] at l;have U:=Lib.hid (kf b t Z _ u d c l C.out (by omega) H X D.out);have J:t.heap[w.heap.size]? =some (.cells #[.int .i64 d,.slice r c.length s] 193 (0,0)):=(l.below.block _ (by omega)).trans G.out;have i0:t.cell? ⟨w.heap.size,0,none⟩=some (.int .i64 d):=by rw [Lib.cell_of_heap J];rfl
 have i1:t.cell? ⟨w.heap.size,1,none⟩=some (.slice r c.length s):=by rw [Lib.cell_of_heap J];rfl
 obtain ⟨a2,c2,rfl⟩:=l.row.len;clear M K L l J E;go_wp2_with fail
 refine U.out.mono ?_;rintro e w3 ⟨v3,rfl,m⟩;have B:=Lib.hid (z.out.trans (m.below.mono (by omega)));obtain ⟨S,h⟩:∃A,u++aY d c=A:=⟨_,rfl⟩;have T:Hid (70::(aB 4 a++aY d c)=S):=Lib.hid (by rw [←h,←f];simp);rw [h] at m;have Q:=m.row.string;obtain ⟨a3,c3,rfl⟩:=m.row.len;clear m h f;go_wp2_with fail
 go_ret;exact ⟨by rw [T.out];rfl,B.out⟩
def dm (a b d:Int):bT where
 host:=bs [109,120,46,111,114,103]
 doms:=[bs [97,46,111,114,103],bs [66,46,110,101,116]]
 nets:=[(256,24)]
 users:=[(bs [117],bs [119]),(bs [118],bs [108,111,110,103,32,119,111,114,100])]
 most:=1+a
 size:=1+b
 waits:=[1,5,2]
 life:=1+d
 room:=1000000
def kr (x y z:Int):bT:=dm (cx x 10) (cx y 1000) (cx z 60)
theorem sT {a b d:Int} (g:0≤a∧a < 10) (h:0≤b∧b < 1000) (i:0≤d∧d < 60):iL (dm a b d)=true:=by
 have c:(iK (dm a b d).host.data.toList && ny (dm a b d).doms && mw (dm a b d).nets && j7 (dm a b d).users)=true:=by kernel_rfl
 have e:j9 (dm a b d).waits=true:=by kernel_rfl
 have f:cd (dm a b d).room 0 1000000=true:=by kernel_rfl
 have w:∀n x y:Int,x≤n→n≤y→cd n x y=true:=fun n x y c e=>by unfold cd;rw [decide_eq_true c,decide_eq_true e];rfl
 unfold iL;rw [c,e,f,w (dm a b d).most 1 10 (by show 1≤1+a;omega) (by show 1+a≤10;omega),w (dm a b d).size 1 1000 (by show 1≤1+b;omega) (by show 1+b≤1000;omega),w (dm a b d).life 1 1000000000 (by show 1≤1+d;omega) (by show 1+d≤1000000000;omega)];rfl
def I3:Array Value:=#[.string ⟨#[]⟩,.slice none 0 0,.slice none 0 0,.slice none 0 0,.int .i64 0,.int .i64 0,.slice none 0 0,.int .i64 0,.int .i64 0]
theorem xS {w:World} {b n c:Nat} {a:Array Value} {t:TypeId} {z:Nat×Nat} (h:w.heap[b]? =some (.cells a t z)) (d:a.size=n * c):aZ w (.slice (some ⟨b,0,none⟩) n n) n c a.toList:=by
 refine ⟨by simpa using d,.inr ⟨b,0,n,rfl,Nat.le_refl _,fun j e=>?_⟩⟩
 rw [Nat.zero_add,Lib.cell_of_heap h,Array.getElem?_toList]
theorem xE (x y z:Int) (w:World) (hx: -9223372036854775808≤x∧x≤9223372036854775807) (hy: -9223372036854775808≤y∧y≤9223372036854775807) (hz: -9223372036854775808≤z∧z≤9223372036854775807):
  Calls Tryz.prog 8 #[.int .i64 x,.int .i64 y,.int .i64 z] w fun e A=>∃vD vN vU vW,e= .returned (.agg #[.string (kr x y z).host,vD,vN,vU,.int .i64 (kr x y z).most,.int .i64 (kr x y z).size,vW,.int .i64 (kr x y z).life,.int .i64 (kr x y z).room])∧jD A (kr x y z) vD vN vU vW∧Below w.heap.size w A:=by
 obtain ⟨a,Q⟩:∃a,cx x 10=a:=⟨_,rfl⟩;obtain ⟨b,R⟩:∃b,cx y 1000=b:=⟨_,rfl⟩;obtain ⟨d,S⟩:∃d,cx z 60=d:=⟨_,rfl⟩;have ba:=cO x (n:=10) (by decide);have bb:=cO y (n:=1000) (by decide);have bd:=cO z (n:=60) (by decide);rw [Q] at ba;rw [R] at bb;rw [S] at bd;have P:kr x y z=dm a b d:=by unfold kr;rw [Q,R,S]
 rw [P];have w1:IntKind.i64.wrap (1+a)=1+a:=by rw [IntKind.wrap_i64];omega
 have w2:IntKind.i64.wrap (1+b)=1+b:=by rw [IntKind.wrap_i64];omega
 have w3:IntKind.i64.wrap (1+d)=1+d:=by rw [IntKind.wrap_i64];omega
 have U:Hid (∀W:World,Calls Tryz.prog 20 #[.int .i64 x,.int .i64 10] W fun e A=>e= .returned (.int .i64 a)∧W=A):=Lib.hid (fun W=>by have:=bZ x 10 W hx.1 hx.2 (by decide) (by decide);rw [Q] at this;exact this);have V:Hid (∀W:World,Calls Tryz.prog 20 #[.int .i64 y,.int .i64 1000] W fun e A=>e= .returned (.int .i64 b)∧W=A):=Lib.hid (fun W=>by have:=bZ y 1000 W hy.1 hy.2 (by decide) (by decide);rw [R] at this;exact this);have X:Hid (∀W:World,Calls Tryz.prog 20 #[.int .i64 z,.int .i64 60] W fun e A=>e= .returned (.int .i64 d)∧W=A):=Lib.hid (fun W=>by have:=bZ z 60 W hz.1 hz.2 (by decide) (by decide);rw [S] at this;exact this);clear Q R S P ba bb bd hx hy hz;go_enter Tryz.func8,Tryz.ntmps8;go_wp2_with fail
 obtain ⟨r,i⟩:∃W:World,w.alloc (.cells #[.string ⟨#[]⟩,.slice none 0 0,.slice none 0 0,.slice none 0 0,.int .i64 0,.int .i64 0,.slice none 0 0,.int .i64 0,.int .i64 0] 30)=W:=⟨_,rfl⟩;have za:r.heap.size=w.heap.size+1:=by rw [←i];simp
 have xa:r.heap[w.heap.size]? =some (.cells I3 30 (0,0)):=by rw [←i];exact heap_alloc_new w _
 have M:Below w.heap.size w r:=by rw [←i];exact (Below.refl _ _).alloc (Nat.le_refl _) _
 rw [i];obtain ⟨o,k⟩:∃W:World,r.alloc (.cells #[.string ⟨#[97,46,111,114,103]⟩,.string ⟨#[66,46,110,101,116]⟩] 9)=W:=⟨_,rfl⟩;have zb:o.heap.size=w.heap.size+2:=by rw [←k];simp [za]
 have N:Below r.heap.size r o:=by rw [←k];exact (Below.refl _ _).alloc (Nat.le_refl _) _
 have xb:o.heap[w.heap.size+1]? =some (.cells #[.string ⟨#[97,46,111,114,103]⟩,.string ⟨#[66,46,110,101,116]⟩] 9 (0,0)):=by rw [←k,←za];exact heap_alloc_new r _
 rw [k];obtain ⟨u,l⟩:∃W:World,o.alloc (.cells #[.int .i64 256,.int .i64 24] 77)=W:=⟨_,rfl⟩;have zc:u.heap.size=w.heap.size+3:=by rw [←l];simp [zb]
 have Z:Below o.heap.size o u:=by rw [←l];exact (Below.refl _ _).alloc (Nat.le_refl _) _
 have xc:u.heap[w.heap.size+1+1]? =some (.cells #[.int .i64 256,.int .i64 24] 77 (0,0)):=by rw [←l,show w.heap.size+1+1=o.heap.size by omega];exact heap_alloc_new o _
 rw [l];obtain ⟨p,m⟩:∃W:World,u.alloc (.cells #[.string ⟨#[117]⟩,.string ⟨#[119]⟩,.string ⟨#[118]⟩,.string ⟨#[108,111,110,103,32,119,111,114,100]⟩] 79)=W:=⟨_,rfl⟩;have zd:p.heap.size=w.heap.size+4:=by rw [←m];simp [zc]
 have f:Below u.heap.size u p:=by rw [←m];exact (Below.refl _ _).alloc (Nat.le_refl _) _
 have xd:p.heap[w.heap.size+1+1+1]? =some (.cells #[.string ⟨#[117]⟩,.string ⟨#[119]⟩,.string ⟨#[118]⟩,.string ⟨#[108,111,110,103,32,119,111,114,100]⟩] 79 (0,0)):=by rw [←m,show w.heap.size+1+1+1=u.heap.size by omega];exact heap_alloc_new u _
 rw [m];have B:Below r.heap.size r p:=(N.trans (Z.mono (by omega))).trans (f.mono (by omega));have O:Below o.heap.size o p:=Z.trans (f.mono (by omega));have D:=Lib.hid (ez B xa);have F:=Lib.hid (ez O xb);have H:=Lib.hid (ez f xc);have J:=Lib.hid xd;have C:=Lib.hid (M.trans (B.mono (by omega)));clear i k l m za xa M zb xb N zc Z xc f xd B O;refine (U.out _).mono ?_;rintro e w1 ⟨rfl,rfl⟩;go_wp2_with fail
 refine (V.out _).mono ?_;rintro e w1 ⟨rfl,rfl⟩;go_wp2_with fail
 obtain ⟨c,s⟩:∃W:World,p.alloc (.cells #[.int .i64 1,.int .i64 5,.int .i64 2] 3)=W:=⟨_,rfl⟩;have be:Below p.heap.size p c:=by rw [←s];exact (Below.refl _ _).alloc (Nat.le_refl _) _
 have xe:c.heap[p.heap.size]? =some (.cells #[.int .i64 1,.int .i64 5,.int .i64 2] 3 (0,0)):=by rw [←s];exact heap_alloc_new p _
 rw [s];refine (X.out _).mono ?_;rintro e w1 ⟨rfl,rfl⟩;have g:=ez be D.out;have E:=Lib.hid g;have G:=Lib.hid (ez be F.out);have I:=Lib.hid (ez be H.out);have K:=Lib.hid (ez be J.out);have Y:=Lib.hid xe;have T:=Lib.hid (C.out.trans (be.mono (by omega)));have m0:c.cell? ⟨w.heap.size,0,none⟩=some (.string ⟨#[]⟩):=by rw [Lib.cell_of_heap g];rfl
 have m1:c.cell? ⟨w.heap.size,1,none⟩=some (.slice none 0 0):=by rw [Lib.cell_of_heap g];rfl
 have m2:c.cell? ⟨w.heap.size,2,none⟩=some (.slice none 0 0):=by rw [Lib.cell_of_heap g];rfl
 have m3:c.cell? ⟨w.heap.size,3,none⟩=some (.slice none 0 0):=by rw [Lib.cell_of_heap g];rfl
 have m4:c.cell? ⟨w.heap.size,4,none⟩=some (.int .i64 0):=by rw [Lib.cell_of_heap g];rfl
 have m5:c.cell? ⟨w.heap.size,5,none⟩=some (.int .i64 0):=by rw [Lib.cell_of_heap g];rfl
 have m6:c.cell? ⟨w.heap.size,6,none⟩=some (.slice none 0 0):=by rw [Lib.cell_of_heap g];rfl
 have m7:c.cell? ⟨w.heap.size,7,none⟩=some (.int .i64 0):=by rw [Lib.cell_of_heap g];rfl
 have m8:c.cell? ⟨w.heap.size,8,none⟩=some (.int .i64 0):=by rw [Lib.cell_of_heap g];rfl
 have ff:∀j:Nat,c.frozen? ⟨w.heap.size,j,none⟩=false:=fun j=>Lib.frozen_of_heap g j;clear be xe s g D F H J C;go_wp2_with fail
 obtain ⟨h,t⟩:∃W:World,(((((((((c.setCell ⟨w.heap.size,0,none⟩ (.string ⟨#[109,120,46,111,114,103]⟩)).setCell ⟨w.heap.size,1,none⟩ (.slice (some ⟨w.heap.size+1,0,none⟩) 2 2)).setCell ⟨w.heap.size,2,none⟩ (.slice (some ⟨w.heap.size+1+1,0,none⟩) 1 1)).setCell ⟨w.heap.size,3,none⟩ (.slice (some ⟨w.heap.size+1+1+1,0,none⟩) 2 2)).setCell ⟨w.heap.size,4,none⟩ (.int .i64 (1+a))).setCell ⟨w.heap.size,5,none⟩ (.int .i64 (1+b))).setCell ⟨w.heap.size,6,none⟩ (.slice (some ⟨w.heap.size+4,0,none⟩) 3 3)).setCell ⟨w.heap.size,7,none⟩ (.int .i64 (1+d))).setCell ⟨w.heap.size,8,none⟩ (.int .i64 1000000))=W:=⟨_,rfl⟩;rw [t];have L:aH w.heap.size c h:=by rw [←t];exact ((((((((((aH.refl _ _).setCell _).setCell _).setCell _).setCell _).setCell _).setCell _).setCell _).setCell _).setCell _)
 have q:h.heap[w.heap.size]? =some (.cells #[.string ⟨#[109,120,46,111,114,103]⟩,.slice (some ⟨w.heap.size+1,0,none⟩) 2 2,.slice (some ⟨w.heap.size+1+1,0,none⟩) 1 1,.slice (some ⟨w.heap.size+1+1+1,0,none⟩) 2 2,.int .i64 (1+a),.int .i64 (1+b),.slice (some ⟨w.heap.size+4,0,none⟩) 3 3,.int .i64 (1+d),.int .i64 1000000] 30 (0,0)):=by
  rw [←t];have z0:=gG (j:=0) (v:= .string ⟨#[109,120,46,111,114,103]⟩) E.out (A':=#[.string ⟨#[109,120,46,111,114,103]⟩,.slice none 0 0,.slice none 0 0,.slice none 0 0,.int .i64 0,.int .i64 0,.slice none 0 0,.int .i64 0,.int .i64 0]) rfl;have z1:=gG (j:=1) (v:= .slice (some ⟨w.heap.size+1,0,none⟩) 2 2) z0 (A':=#[.string ⟨#[109,120,46,111,114,103]⟩,.slice (some ⟨w.heap.size+1,0,none⟩) 2 2,.slice none 0 0,.slice none 0 0,.int .i64 0,.int .i64 0,.slice none 0 0,.int .i64 0,.int .i64 0]) rfl;have z2:=gG (j:=2) (v:= .slice (some ⟨w.heap.size+1+1,0,none⟩) 1 1) z1 (A':=#[.string ⟨#[109,120,46,111,114,103]⟩,.slice (some ⟨w.heap.size+1,0,none⟩) 2 2,.slice (some ⟨w.heap.size+1+1,0,none⟩) 1 1,.slice none 0 0,.int .i64 0,.int .i64 0,.slice none 0 0,.int .i64 0,.int .i64 0]) rfl;have z3:=gG (j:=3) (v:= .slice (some ⟨w.heap.size+1+1+1,0,none⟩) 2 2) z2 (A':=#[.string ⟨#[109,120,46,111,114,103]⟩,.slice (some ⟨w.heap.size+1,0,none⟩) 2 2,.slice (some ⟨w.heap.size+1+1,0,none⟩) 1 1,.slice (some ⟨w.heap.size+1+1+1,0,none⟩) 2 2,.int .i64 0,.int .i64 0,.slice none 0 0,.int .i64 0,.int .i64 0]) rfl;have z4:=gG (j:=4) (v:= .int .i64 (1+a)) z3 (A':=#[.string ⟨#[109,120,46,111,114,103]⟩,.slice (some ⟨w.heap.size+1,0,none⟩) 2 2,.slice (some ⟨w.heap.size+1+1,0,none⟩) 1 1,.slice (some ⟨w.heap.size+1+1+1,0,none⟩) 2 2,.int .i64 (1+a),.int .i64 0,.slice none 0 0,.int .i64 0,.int .i64 0]) rfl;have z5:=gG (j:=5) (v:= .int .i64 (1+b)) z4 (A':=#[.string ⟨#[109,120,46,111,114,103]⟩,.slice (some ⟨w.heap.size+1,0,none⟩) 2 2,.slice (some ⟨w.heap.size+1+1,0,none⟩) 1 1,.slice (some ⟨w.heap.size+1+1+1,0,none⟩) 2 2,.int .i64 (1+a),.int .i64 (1+b),.slice none 0 0,.int .i64 0,.int .i64 0]) rfl;have z6:=gG (j:=6) (v:= .slice (some ⟨w.heap.size+4,0,none⟩) 3 3) z5 (A':=#[.string ⟨#[109,120,46,111,114,103]⟩,.slice (some ⟨w.heap.size+1,0,none⟩) 2 2,.slice (some ⟨w.heap.size+1+1,0,none⟩) 1 1,.slice (some ⟨w.heap.size+1+1+1,0,none⟩) 2 2,.int .i64 (1+a),.int .i64 (1+b),.slice (some ⟨w.heap.size+4,0,none⟩) 3 3,.int .i64 0,.int .i64 0]) rfl;have z7:=gG (j:=7) (v:= .int .i64 (1+d)) z6 (A':=#[.string ⟨#[109,120,46,111,114,103]⟩,.slice (some ⟨w.heap.size+1,0,none⟩) 2 2,.slice (some ⟨w.heap.size+1+1,0,none⟩) 1 1,.slice (some ⟨w.heap.size+1+1+1,0,none⟩) 2 2,.int .i64 (1+a),.int .i64 (1+b),.slice (some ⟨w.heap.size+4,0,none⟩) 3 3,.int .i64 (1+d),.int .i64 0]) rfl;exact gG (j:=8) (v:= .int .i64 1000000) z7 (A':=#[.string ⟨#[109,120,46,111,114,103]⟩,.slice (some ⟨w.heap.size+1,0,none⟩) 2 2,.slice (some ⟨w.heap.size+1+1,0,none⟩) 1 1,.slice (some ⟨w.heap.size+1+1+1,0,none⟩) 2 2,.int .i64 (1+a),.int .i64 (1+b),.slice (some ⟨w.heap.size+4,0,none⟩) 3 3,.int .i64 (1+d),.int .i64 1000000]) rfl
 have P:h.cell? ⟨w.heap.size,0,none⟩=some (.string ⟨#[109,120,46,111,114,103]⟩):=by rw [Lib.cell_of_heap q];rfl
 have e1:h.cell? ⟨w.heap.size,1,none⟩=some (.slice (some ⟨w.heap.size+1,0,none⟩) 2 2):=by rw [Lib.cell_of_heap q];rfl
 have e2:h.cell? ⟨w.heap.size,2,none⟩=some (.slice (some ⟨w.heap.size+1+1,0,none⟩) 1 1):=by rw [Lib.cell_of_heap q];rfl
 have e3:h.cell? ⟨w.heap.size,3,none⟩=some (.slice (some ⟨w.heap.size+1+1+1,0,none⟩) 2 2):=by rw [Lib.cell_of_heap q];rfl
 have e4:h.cell? ⟨w.heap.size,4,none⟩=some (.int .i64 (1+a)):=by rw [Lib.cell_of_heap q];rfl
 have e5:h.cell? ⟨w.heap.size,5,none⟩=some (.int .i64 (1+b)):=by rw [Lib.cell_of_heap q];rfl
 have e6:h.cell? ⟨w.heap.size,6,none⟩=some (.slice (some ⟨w.heap.size+4,0,none⟩) 3 3):=by rw [Lib.cell_of_heap q];rfl
 have e7:h.cell? ⟨w.heap.size,7,none⟩=some (.int .i64 (1+d)):=by rw [Lib.cell_of_heap q];rfl
 have e8:h.cell? ⟨w.heap.size,8,none⟩=some (.int .i64 1000000):=by rw [Lib.cell_of_heap q];rfl
 clear t q;refine bodyPost_ret (v:= .agg #[.string ⟨#[109,120,46,111,114,103]⟩,.slice (some ⟨w.heap.size+1,0,none⟩) 2 2,.slice (some ⟨w.heap.size+1+1,0,none⟩) 1 1,.slice (some ⟨w.heap.size+1+1+1,0,none⟩) 2 2,.int .i64 (1+a),.int .i64 (1+b),.slice (some ⟨w.heap.size+4,0,none⟩) 3 3,.int .i64 (1+d),.int .i64 1000000]) (by simp [results,Tryz.results8,go_sem,P,e1,e2,e3,e4,e5,e6,e7,e8]) rfl ?_;exact ⟨_,_,_,_,rfl,⟨xS (kT L G.out (by omega)) rfl,xS (kT L I.out (by omega)) rfl,xS (kT L K.out (by omega)) rfl,xS (kT L (by rw [←zd];exact Y.out) (by omega)) rfl⟩,T.out.trans (L.below (Nat.le_refl _))⟩
end Go.Proofs.YtofpegbpgkkgkaaGreatDoor
