import Derived.Test.YtofpegbpgkkgkaaGreatDoorS08
import Derived.Test.YtofpegbpgkkgkaaGreatDoorS12
import Derived.Test.YtofpegbpgkkgkaaGreatDoorS07
namespace Go.Proofs.YtofpegbpgkkgkaaGreatDoor
set_option maxHeartbeats 8000000
set_option maxRecDepth 1000000
open Go.RowKit
theorem mC (l:List UInt8) (w:World) (hl:l.length≤1048576):Calls Tryz.prog 118 #[.string (bs l)] w (rT l w):=by
 have sl:=aI l;obtain ⟨s,hs⟩:∃s,w.heap.size=s:=⟨_,rfl⟩;obtain ⟨W0,K⟩:∃W0:World,(w.alloc (.cells #[.int .i64 0,.slice none 0 0] 193)).alloc (.cells #[.string (bs l),.bool false] 187)=W0:=⟨_,rfl⟩;obtain ⟨F0,R0,B0,Z0⟩:=wy hs hl K;have p:=iB (s+1) 1 (some l) W0 F0 (by decide);have H:=Lib.hid K;have j:=Lib.hid hs;have z:=Lib.hid R0;have y:=Lib.hid B0;have S:=Lib.hid Z0;clear K F0 R0 B0 Z0
 by_cases m:l.take 1=[70]
 ·obtain ⟨r,hr⟩:∃r,l.drop 1=r:=⟨_,rfl⟩;have HL:Hid (l=70::r):=Lib.hid (by rw [←List.take_append_drop 1 l,m,hr];rfl);have e1:(some l).bind (bg 1)=some ([70],r):=by show bg 1 l=_;rw [HL.out];rfl
  have A:Hid (bO l=(fU 4 r).bind fun a=>(dJ a.2).bind fun x=>if a.1≤1000000000 then some (a.1,x.1,x.2) else none):=Lib.hid (by rw [HL.out];unfold bO;simp only;rw [if_pos trivial]);rw [e1] at p;have m1:((bs (gy (some ([70],r)))).toList == [70])=true:=by show ((bs [70]).toList == [70])=true;rw [pM];rfl
  have h:=Lib.hid p;clear p e1 hr m;go_enter Tryz.func118,Tryz.ntmps118;go_wp2_with fail
  rw [H.out];refine h.out.mono ?_;rintro e u ⟨rfl,B,d⟩;have F1:gu u (s+1) (some r):=B;have k:ni u s 0 (.slice none 0 0):=(d.2 s (by omega)).trans z.out;have P:=y.out.trans (d.below (by omega));have V:u.heap.size=s+2:=d.1.trans S.out;obtain ⟨T,X,hT⟩:∃T X,fT 4 (some r)=(T,X):=⟨_,_,rfl⟩;have a6:T≤4294967295:=by have:=lp 4 (some r);rw [hT] at this;simp at this;omega
  have f:Hid (bO l=(iW X).bind fun x=>if T≤1000000000 then some (T,x.1,x.2) else none):=Lib.hid (by
   rw [A.out,jh,hT]
   cases X with
   | none=>rfl
   | some q=>rfl)
  have M:Calls Tryz.prog 111 #[.pointer (some ⟨s+1,0,none⟩),.int .i64 4] u fun e w'=>e= .returned (.int .i64 (fT 4 (some r)).1)∧gu w' (s+1) (fT 4 (some r)).2∧aH (s+1) u w':=dN (s+1) 4 (some r) u F1 (by decide);rw [hT] at M;have Q:=Lib.hid M;have D:=Lib.hid k;have C:=Lib.hid P;have E:=Lib.hid V;clear B d F1 k P V h z y S H hT M A;go_wp2_with fail
  refine Q.out.mono ?_;rintro e O ⟨rfl,B,d⟩;have k:ni O s 0 (.slice none 0 0):=(d.2 s (by omega)).trans D.out;have P:=C.out.trans (d.below (by omega));have V:O.heap.size=s+2:=d.1.trans E.out;have R:=Lib.hid (qw (s+1) X O B (by omega));have a0:=Lib.hid k;have F:=Lib.hid P;have I:=Lib.hid V;clear B d k P V Q D C E;go_wp2_with fail
  refine R.out.mono ?_;rintro e b ⟨L,n⟩;have U:ni b s 0 (.slice none 0 0):=(n.block s (by have:=I.out;omega) (by omega)).trans a0.out;have Z:b.cell? ⟨s,0,none⟩=some (.int .i64 0):=(U.cell 0).1;have g0:=(U.cell 0).2;have r1:b.cell? ⟨s,1,none⟩=some (.slice none 0 0):=(U.cell 1).1;have g1:=(U.cell 1).2;have G:Hid (Below s w b):=Lib.hid (F.out.trans (n.below (by omega) (by have:=I.out;omega)));have a7:s < b.heap.size:=aA Z;have a9:∀o:Obj,(b.alloc o).cell? ⟨s,0,none⟩=some (.int .i64 0):=fun o=>(((Below.refl b.heap.size b).alloc (Nat.le_refl _) o).cell (aA Z)).trans Z;have b0:∀o:Obj,(b.alloc o).cell? ⟨s,1,none⟩=some (.slice none 0 0):=fun o=>(((Below.refl b.heap.size b).alloc (Nat.le_refl _) o).cell (aA r1)).trans r1;have a4:∀o:Obj,(b.alloc o).frozen? ⟨s,0,none⟩=false:=fun o=>(((Below.refl b.heap.size b).alloc (Nat.le_refl _) o).frozen (aA Z)).trans g0;have a5:∀o:Obj,(b.alloc o).frozen? ⟨s,1,none⟩=false:=fun o=>(((Below.refl b.heap.size b).alloc (Nat.le_refl _) o).frozen (aA r1)).trans g1;have a8:¬b.heap.size=s:=by omega
  have a1:¬s=b.heap.size:=by omega
  clear n U R
  rcases L with ⟨N,rfl⟩ | ⟨id,Y,v,N,rfl,W,B,d,h3,h4⟩
  ·have i:Hid (bO l=none):=Lib.hid (by rw [f.out,N];rfl);clear N f;go_wp2_with fail
   refine bodyPost_ret (v:= .tuple #[.int .i64 0,.agg #[.int .i64 0,.slice none 0 0],.bool false]) (by simp [results,Tryz.results118,go_sem, *]) rfl ?_;refine ⟨.inl ⟨i.out,rfl⟩,?_⟩;rw [j.out];exact ((G.out.setCell (Nat.le_refl _) _).setCell (Nat.le_refl _) _).alloc (by simp;omega) _
  ·obtain ⟨a,cp,rfl⟩:∃a cp,v= .slice a Y.length cp:=by
    rcases W.2 with ⟨e,h0⟩ | ⟨g,a2,a3,e,_⟩
    ·exact ⟨_,_,by rw [h0];exact e⟩
    ·exact ⟨_,_,e⟩
   rw [I.out] at W;have HO:=Lib.hid W;have H4:=Lib.hid h4
   by_cases J:T≤1000000000
   ·have i:Hid (bO l=some (T,id,Y)):=Lib.hid (by rw [f.out,N,sb,if_pos J]);have hd:decide (1000000000 < (T:Int))=false:=decide_eq_false (by omega);clear N f W h4;go_wp2_with fail
    go_region
    go_wp2_with fail
    refine bodyPost_ret (v:= .tuple #[.int .i64 T,.agg #[.int .i64 id,.slice a Y.length cp],.bool true]) (by simp [results,Tryz.results118,go_sem, *]) rfl ?_;refine ⟨.inr ⟨T,id,Y,.slice a Y.length cp,i.out,rfl,⟨?_,B,d,h3,H4.out⟩,J⟩,?_⟩
    ·rw [j.out];exact ((((mU (mU HO.out (by omega)) (by omega)).alloc _).drew)).mono (by omega)
    ·rw [j.out];exact (((G.out.setCell (Nat.le_refl _) _).setCell (Nat.le_refl _) _).alloc (by simp;omega) _).drew
   ·have i:Hid (bO l=none):=Lib.hid (by rw [f.out,N,sb,if_neg J]);have hd:decide (1000000000 < (T:Int))=true:=decide_eq_true (by omega);clear N f W h4;go_wp2_with fail
    refine bodyPost_ret (v:= .tuple #[.int .i64 0,.agg #[.int .i64 0,.slice none 0 0],.bool false]) (by simp [results,Tryz.results118,go_sem, *]) rfl ?_;refine ⟨.inl ⟨i.out,rfl⟩,?_⟩;rw [j.out];exact ((G.out.setCell (Nat.le_refl _) _).setCell (Nat.le_refl _) _).alloc (by simp;omega) _
 ·have A:Hid (bO l=none):=Lib.hid (by
   cases l with
   | nil=>rfl
   | cons c r=>
    have p:¬c=70:=fun e=>m (by rw [e];rfl);unfold bO;simp only
    rw [if_neg p])
  have m1:((bs (gy ((some l).bind (bg 1)))).toList == [70])=false:=by
   rw [pM]
   cases l with
   | nil=>rfl
   | cons c r=>
    have p:¬c=70:=fun e=>m (by rw [e];rfl);show ([c] == [70])=false;simpa using p
  obtain ⟨t,et⟩:∃t,gy ((some l).bind (bg 1))=t:=⟨_,rfl⟩;rw [et] at m1 p;have h:=Lib.hid p;clear m et p;go_enter Tryz.func118,Tryz.ntmps118;go_wp2_with fail
  rw [H.out];refine h.out.mono ?_;rintro e u ⟨rfl,B,d⟩;have k:ni u s 0 (.slice none 0 0):=(d.2 s (by omega)).trans z.out;have Z:u.cell? ⟨s,0,none⟩=some (.int .i64 0):=(k.cell 0).1;have g0:=(k.cell 0).2;have r1:u.cell? ⟨s,1,none⟩=some (.slice none 0 0):=(k.cell 1).1;have g1:=(k.cell 1).2;have F:=Lib.hid (y.out.trans (d.below (by omega)));clear B d k h z y;go_wp2_with fail
  refine bodyPost_ret (v:= .tuple #[.int .i64 0,.agg #[.int .i64 0,.slice none 0 0],.bool false]) (by simp [results,Tryz.results118,go_sem, *]) rfl ?_;refine ⟨.inl ⟨A.out,rfl⟩,?_⟩;rw [j.out];exact (F.out.setCell (Nat.le_refl _) _).setCell (Nat.le_refl _) _
def lU (base pb mb:Nat) (q:Nat→Nat) (vr:Value) (S:aa) (o:Option aa) (w:World) (e:Ending) (w':World):Prop:=
 ((o=none∧e= .returned (.bool false)∧bf base w' pb mb q vr S)∨∃S' q',o=some S'∧e= .returned (.bool true)∧bf base w' pb mb q' vr S')∧Below base w w'
theorem bf.drewN {a c b:Nat} {q:Nat→Nat} {d:Value} {S:aa} {w:World} (h:bf a w c b q d S) (n:Nat):bf a (w.drewN n) c b q d S:=h.keep (bw n _ _)
theorem xZ (a l t:Nat) (q:Nat→Nat) (u:Value) (S:aa) (m:aR) (v:Value) (w:World) (h:bf a w l t q u S) (B:Nat) (y:w.ownsRow B 9 1 v m.tos.length (az m.tos)) (I:dq m) (H:1≤m.tos.length) (G:S.items.length < 4294967295):
  Calls Tryz.prog 115 #[.pointer (some ⟨l,0,none⟩),.agg (aV m v)] w (lU a l t q u S (S.takesM m) w):=by
 have k:=h.le;obtain ⟨b,c⟩:∃b:World,w.alloc (.cells #[.int .i64 m.id,.int .i64 m.time,.string (bs m.frm),v,.string (bs m.body)] 45)=b:=⟨_,rfl⟩;have r:Below w.heap.size w b:=by rw [←c];exact (Below.refl _ _).alloc (Nat.le_refl _) _
 have p:bf a b l t q u S:=h.keep r;have n:b.heap[w.heap.size]? =some (.cells #[.int .i64 m.id,.int .i64 m.time,.string (bs m.frm),v,.string (bs m.body)] 45 (0,0)):=by rw [←c];exact heap_alloc_new w _
 have L:b.cell? ⟨l,1,none⟩=some (.int .i64 S.time):=by rw [Lib.cell_of_heap p.bag];rfl
 have M:b.cell? ⟨l,2,none⟩=some (.int .i64 S.items.length):=by rw [Lib.cell_of_heap p.bag];rfl
 have N:b.cell? ⟨w.heap.size,0,none⟩=some (.int .i64 m.id):=by rw [Lib.cell_of_heap n];rfl
 have O:b.cell? ⟨w.heap.size,1,none⟩=some (.int .i64 m.time):=by rw [Lib.cell_of_heap n];rfl
 have P:b.cell? ⟨w.heap.size,2,none⟩=some (.string (bs m.frm)):=by rw [Lib.cell_of_heap n];rfl
 have Q:b.cell? ⟨w.heap.size,3,none⟩=some v:=by rw [Lib.cell_of_heap n];rfl
 have R:b.cell? ⟨w.heap.size,4,none⟩=some (.string (bs m.body)):=by rw [Lib.cell_of_heap n];rfl
 have f:=Lib.hid p;have i:=Lib.hid r;have j:=Lib.hid c;have E:=Lib.hid (ax y fun g x e _=>ae r e);have F:=Lib.hid I;unfold aV;clear p n r h c y;have T:IntKind.i64.wrap ((S.items.length:Int)+1)=(S.items.length:Int)+1:=by rw [IntKind.wrap_i64];omega
 by_cases d:m.id=S.items.length+1
 ·by_cases s:S.time≤m.time
  ·have o:Hid (S.takesM m=some (S.plus m)):=Lib.hid (by unfold aa.takesM aa.plus;rw [decide_eq_true d,decide_eq_true s];rfl);have z:((m.id:Int) != (S.items.length:Int)+1)=false:=by rw [d];simp
   have K:¬m.time < S.time:=by omega
   have D:=Lib.hid d;clear d s;go_enter Tryz.func115,Tryz.ntmps115;go_wp2_with fail
   rw [j.out];go_quiet (fail)
   go_wp2_with fail
   refine (rY a l t q u S m v _ (f.out.drewN _) B (ax E.out fun g x e _=>ae (bw _ _ _) e) F.out D.out H G).mono ?_;rintro e U ⟨rfl,J,A,C⟩;go_wp2_with fail
   go_ret;exact ⟨.inr ⟨_,J,o.out,rfl,A⟩,((i.out.mono k).trans (bw _ _ _)).trans C⟩
  ·have o:Hid (S.takesM m=none):=Lib.hid (by unfold aa.takesM;rw [decide_eq_false s,Bool.and_false];rfl);have z:((m.id:Int) != (S.items.length:Int)+1)=false:=by rw [d];simp
   have K:m.time < S.time:=by omega
   clear d s;go_enter Tryz.func115,Tryz.ntmps115;go_wp2_with fail
   rw [j.out];go_quiet (fail)
   go_wp2_with fail
   go_ret;exact ⟨.inl ⟨o.out,rfl,f.out.drewN _⟩,(i.out.mono k).trans (bw _ _ _)⟩
 ·have o:Hid (S.takesM m=none):=Lib.hid (by unfold aa.takesM;rw [decide_eq_false d,Bool.false_and];rfl);have z:((m.id:Int) != (S.items.length:Int)+1)=true:=by rw [bne_iff_ne];omega
  clear d;go_enter Tryz.func115,Tryz.ntmps115;go_wp2_with fail
  rw [j.out];go_quiet (fail)
  go_wp2_with fail
  go_ret;exact ⟨.inl ⟨o.out,rfl,f.out.drewN _⟩,(i.out.mono k).trans (bw _ _ _)⟩
theorem xY (a j s:Nat) (q:Nat→Nat) (t g:Value) (S:aa) (b:Nat) (f:List Nat) (w:World) (h:bf a w j s q t S) (p:S.Ok) (F:aZ w g f.length 1 (aX f)) (D:b≤4294967295) (L:1≤f.length) (r:f.length≤255) (M:S.items.length≤4294967295):
  Calls Tryz.prog 117 #[.pointer (some ⟨j,0,none⟩),.agg #[.int .i64 b,g]] w (lU a j s q t S (S.takesG b f) w):=by
 have E:=h.le;obtain ⟨i,c⟩:∃i:World,w.alloc (.cells #[.int .i64 b,g] 193)=i:=⟨_,rfl⟩;have k:Below w.heap.size w i:=by rw [←c];exact (Below.refl _ _).alloc (Nat.le_refl _) _
 have u:bf a i j s q t S:=h.keep k;have B:i.heap[w.heap.size]? =some (.cells #[.int .i64 b,g] 193 (0,0)):=by rw [←c];exact heap_alloc_new w _
 have R:∀o:Obj,o= .cells #[.int .i64 b,g] 193→(w.alloc o).cell? ⟨w.heap.size,0,none⟩=some (.int .i64 b):=fun o T=>by rw [T,c,Lib.cell_of_heap B];rfl
 have P:=Lib.hid (jK a j s q t g S b f i u p (F.below k) D L r M);have l:=Lib.hid u;have v:=Lib.hid k;have z:=Lib.hid c;have A:=Lib.hid B;have x:=Lib.hid (F.below k);clear u k c B F h R;go_enter Tryz.func117,Tryz.ntmps117;go_wp2_with fail
 rw [z.out];refine P.out.mono ?_;rintro e G ⟨rfl,d⟩;have H:=ae d A.out;have W:G.cell? ⟨w.heap.size,0,none⟩=some (.int .i64 b):=by rw [Lib.cell_of_heap H];rfl
 have X:G.cell? ⟨w.heap.size,1,none⟩=some g:=by rw [Lib.cell_of_heap H];rfl
 have I:=Lib.hid (l.out.keep d);have Q:=Lib.hid (x.out.below d);have J:=Lib.hid (((v.out.mono E)).trans (d.mono l.out.le));clear H d
 cases n:bu S b f with
 | false=>
  have y:Hid (S.takesG b f=none):=Lib.hid (by unfold aa.takesG;rw [n];rfl);clear n;go_wp2_with fail
  go_ret;exact ⟨.inl ⟨y.out,rfl,I.out⟩,J.out⟩
 | true=>
  have y:Hid (S.takesG b f=some (S.outs (b - 1) f)):=Lib.hid (by unfold aa.takesG;rw [n];rfl);rw [dv L,Bool.and_eq_true,decide_eq_true_eq] at n;obtain ⟨⟨C,m⟩,_⟩:=n;have K:=Lib.hid (oE a j s q t g S (b - 1) f G I.out p Q.out m r M);rw [show ((b - 1:Nat):Int)+1=(b:Int) by omega] at K
  clear C m;go_wp2_with fail
  refine K.out.mono ?_;rintro e V ⟨U,rfl,_,N,O⟩;go_wp2_with fail
  go_ret;exact ⟨.inr ⟨_,q,y.out,rfl,N⟩,J.out.trans O⟩
theorem lh (l:List (List UInt8)) (a:∀t∈l,t.length≤255):(fu l).length≤14+257 * l.length:=by
 unfold fu;rw [List.length_append,show FW.length=14 from rfl]
 have:(l.flatMap fun t=>[13,10]++t).length≤257 * l.length:=by
  induction l with
  | nil=>simp
  | cons x l ih=>
   have c:=ih fun t b=>a t (by simp [b]);have d:=a x (by simp);rw [List.flatMap_cons,List.length_append,List.length_append];simp only [List.length_cons,List.length_nil];omega
 omega
theorem mP {a:List (List UInt8)} (b:∀t∈a,t.length≤255) (i:Nat):(a.getD i []).length≤255:=by
 rw [List.getD_eq_getElem?_getD]
 cases h:a[i]? with
 | none=>simp
 | some x=>exact b x (List.mem_of_getElem? h)
theorem jt {S:aa} {c:Nat} {a:List Nat} (d:bC a=true) (b:bu S c a=true):di (S.stayOf (c - 1)) a=a.map fun i=>(S.mailOf (c - 1)).tos.getD i []:=by
 unfold bu at b;rw [Bool.and_eq_true,List.all_eq_true] at b;unfold di aa.stayOf;refine Ck _ _ _ d fun x e=>?_;have:=b.2 x e;simpa using this
theorem jP {S:aa} {T a:Nat} {b:List Nat} (e:bC b=true) (c:bu S a b=true) (d:S.time≤T):
  ((S.mailOf (a - 1)).frm=[]→S.takesF T a b=some (aa.outs ⟨S.items,T⟩ (a - 1) b))∧
  ((S.mailOf (a - 1)).frm≠[]→S.takesF T a b=some ((aa.outs ⟨S.items,T⟩ (a - 1) b).plus ⟨S.items.length+1,T,[],[(S.mailOf (a - 1)).frm],fu (di (S.stayOf (a - 1)) b)⟩)):=by
 unfold aa.takesF;rw [c,decide_eq_true d];simp only [Bool.and_true,if_true,aa.failed]
 constructor
 ·intro h;rw [if_pos h];rfl
 ·intro h;rw [if_neg h,jt e c,zJ];simp [aa.plus,aa.outs]
theorem tL (a b p:Nat) (q:Nat→Nat) (E r:Value) (S:aa) (T m:Nat) (d:List Nat) (w:World) (h:bf a w b p q E S) (A:S.Ok) (B:Nat) (hp:w.ownsRow B 3 1 r d.length (aX d)) (c6:m≤4294967295) (h1:1≤d.length) (a2:d.length≤255) (hr:bC d=true) (hT:T≤1000000000) (hn:S.items.length < 4294967295):
  Calls Tryz.prog 119 #[.pointer (some ⟨b,0,none⟩),.int .i64 T,.agg #[.int .i64 m,r]] w (lU a b p q E S (S.takesF T m d) w):=by
 have c7:=h.le;obtain ⟨J,y⟩:∃J:World,w.alloc (.cells #[.int .i64 m,r] 193)=J:=⟨_,rfl⟩;have B0:Below w.heap.size w J:=by rw [←y];exact (Below.refl _ _).alloc (Nat.le_refl _) _
 have A0:bf a J b p q E S:=h.keep B0;have X0:J.heap[w.heap.size]? =some (.cells #[.int .i64 m,r] 193 (0,0)):=by rw [←y];exact heap_alloc_new w _
 have O0:=ax hp fun g G e _=>ae B0 e;have HM:=Lib.hid (jK a b p q E r S m d J A0 A (aC O0) c6 h1 a2 (by omega));have Q:=Lib.hid A0;have a6:=Lib.hid B0;have b4:=Lib.hid y;have b6:=Lib.hid X0;have b0:=Lib.hid O0;have c9:b < w.heap.size:=h.pblt;clear A0 B0 y X0 hp h O0;go_enter Tryz.func119,Tryz.ntmps119;go_wp2_with fail
 rw [b4.out];refine HM.out.mono ?_;rintro e I ⟨rfl,n⟩;have x0:=ae n b6.out;have y0:I.cell? ⟨w.heap.size,0,none⟩=some (.int .i64 m):=by rw [Lib.cell_of_heap x0];rfl
 have y1:I.cell? ⟨w.heap.size,1,none⟩=some r:=by rw [Lib.cell_of_heap x0];rfl
 have b7:=Lib.hid x0;have A2:=Q.out.keep n;have c1:I.cell? ⟨b,1,none⟩=some (.int .i64 S.time):=by rw [Lib.cell_of_heap A2.bag];rfl
 have g1:I.frozen? ⟨b,1,none⟩=false:=Lib.frozen_of_heap A2.bag 1;have j:=Lib.hid A2;have O2:=Lib.hid (ax b0.out fun g G e _=>ae n e);have B2:=Lib.hid (((a6.out.mono c7)).trans (n.mono Q.out.le));clear x0 n A2
 cases M:bu S m d with
 | false=>
  have HT:Hid (S.takesF T m d=none):=Lib.hid (by unfold aa.takesF;rw [M];rfl);clear M;go_wp2_with fail
  go_ret;exact ⟨.inl ⟨HT.out,rfl,j.out⟩,B2.out⟩
 | true=>
  by_cases u:S.time≤T
  ·have s:=Lib.hid (jP hr M u);have V:=Lib.hid (jt hr M);rw [dv h1,Bool.and_eq_true,decide_eq_true_eq] at M;obtain ⟨⟨c2,k⟩,_⟩:=M;obtain ⟨K,rfl⟩:∃K,m=K+1:=⟨m - 1,by omega⟩
   rw [Nat.add_sub_cancel] at s V k;have c8:¬T < S.time:=by omega
   clear u;go_wp2_with fail
   obtain ⟨f,C⟩:∃f:World,I.setCell ⟨b,1,none⟩ (.int .i64 T)=f:=⟨_,rfl⟩;rw [C];have Y:aH b I f:=by rw [←C];exact (aH.refl _ _).setCell _
   have P3:f.heap[b]? =some (.cells #[E,.int .i64 T,.int .i64 S.items.length,.map (some p)] 117 (0,0)):=by
    rw [←C];exact heap_setCell_same I b 1 _ _ (.int .i64 T) j.out.bag
   have O:bf a f.drew b p q E ⟨S.items,T⟩:=(j.out.timed Y P3).keep ((Below.refl _ _).drew);have X3:f.drew.heap[w.heap.size]? =some (.cells #[.int .i64 ((K:Int)+1),r] 193 (0,0)):=aJ Y b7.out (by omega);have O3:f.drew.ownsRow B 3 1 r d.length (aX d):=ax O2.out fun g G e _=>aJ Y e fun e'=>by rw [e',j.out.bag] at e;simp at e
   have c3:f.drew.cell? ⟨b,3,none⟩=some (.map (some p)):=by rw [Lib.cell_of_heap O.bag];rfl
   have z0:f.drew.cell? ⟨w.heap.size,0,none⟩=some (.int .i64 ((K:Int)+1)):=by rw [Lib.cell_of_heap X3];rfl
   have z1:f.drew.cell? ⟨w.heap.size,1,none⟩=some r:=by rw [Lib.cell_of_heap X3];rfl
   have a0:=bm k
   have d2:(Instr.lookup 115 (.map (some p)) (.int .i64 ((K:Int)+1)) false).run Tryz.prog f.drew= .ok (.pointer (some ⟨q K,0,none⟩)) f.drew:=
    gQ (t:=115) (e:=122) fJ Tryz.underlying115 O.map (fun i hi=>by have:=bm hi;simp only at this;omega) K (by omega) k false
   obtain ⟨_,v,_,hb,_⟩:=O.mail K k;have m1:f.drew.cell? ⟨q K,1,none⟩=some (.string (bs (S.mailOf K).frm)):=by rw [Lib.cell_of_heap hb];rfl
   have a9:=Lib.hid (oE a b p q E r ⟨S.items,T⟩ K d f.drew O (A.time T) (aC O3) k a2 (by show S.items.length≤_;omega));have c0:=Lib.hid (B2.out.trans ((Y.below j.out.pbb).drew));have X:Hid (dq (S.mailOf K)):=Lib.hid (by rw [bR a0];exact (A.sz _ (List.getElem_mem a0)).1);have b2:=Lib.hid (dp A K);clear C Y P3 O X3 O3 hb y0 y1 c1 g1 c2 k;obtain ⟨F,eF⟩:∃F,(S.mailOf K).frm=F:=⟨_,rfl⟩;rw [eF] at m1 s;go_region
   all_goals
    go_wp2_with fail
    refine a9.out.mono ?_;rintro e c ⟨vn,rfl,a3,P,B4⟩;have b8:=P.le
    have c4:c.drew.cell? ⟨b,2,none⟩=some (.int .i64 (S.items.length:Int)):=by
     show c.cell? _=_;rw [Lib.cell_of_heap P.bag,bF];rfl
    have c5:∀o:Obj,(c.alloc o).cell? ⟨b,2,none⟩=some (.int .i64 (S.items.length:Int)):=fun o=>by
     have:=ae ((Below.refl _ c).alloc (Nat.le_refl _) o) P.bag;rw [Lib.cell_of_heap this,bF];rfl
    have b3:=Lib.hid a3;have R:=Lib.hid P;have U:=Lib.hid (c0.out.trans B4);clear a3 P B4
    by_cases H:F=[]
    ·have tF:(bs F).toList.isEmpty=true:=by rw [Lib.toList_data,H];rfl
     have HR:=Lib.hid (s.out.1 H);clear H;go_wp2_with fail
     go_ret;exact ⟨.inr ⟨_,q,HR.out,rfl,R.out⟩,U.out⟩
    ·have tF:(bs F).toList.isEmpty=false:=by
      rw [Lib.toList_data]
      cases F with
      | nil=>exact absurd rfl H
      | cons x l=>rfl
     have HR:=Lib.hid (s.out.2 H);have d3:IntKind.i64.wrap ((S.items.length:Int)+1)=(S.items.length:Int)+1:=by rw [IntKind.wrap_i64];omega
     obtain ⟨N,Z⟩:∃N,di (S.stayOf K) d=N:=⟨_,rfl⟩;have d0:N.length≤10:=by rw [←Z];have:=mf (S.stayOf K) d;have:=b2.out;omega
     have a1:∀t∈N,t.length≤255:=by
      intro t ht;rw [←Z,V.out,List.mem_map] at ht;obtain ⟨i,_,rfl⟩:=ht;exact mP X.out.2.2.2.2.1 i
     have d1:=lh N a1;have D:c.ownsRow f.drew.heap.size 9 1 vn N.length (az N):=by rw [←Z];exact b3.out
     have b1:Hid (∀W:World,Below c.heap.size c W→Calls Tryz.prog 170 #[vn] W fun e w'=>e= .returned (.string (bs (fu N)))∧W=w'):=Lib.hid (fun W hW=>mD N vn W (aC (ax D fun g G e _=>ae hW e)) (by omega) a1);obtain ⟨L,z⟩:∃L:World,(c.alloc (.cells #[.string (bs F)] 9)).drew=L:=⟨_,rfl⟩;have B5:Below c.heap.size c L:=by rw [←z];exact ((Below.refl _ _).alloc (Nat.le_refl _) _).drew
     have X5:L.heap[c.heap.size]? =some (.cells #[.string (bs F)] 9 (0,0)):=by rw [←z];exact heap_alloc_new c _
     have O5:L.ownsRow c.heap.size 9 1 (.slice (some ⟨c.heap.size,0,none⟩) 1 1) 1 (az [F]):=
      ⟨rfl,.inr ⟨c.heap.size,1,_,rfl,Nat.le_refl _,X5,Nat.le_refl _,by unfold maxLen;omega,rfl,rfl⟩⟩
     have a5:=Lib.hid (rY a b p q E (aa.outs ⟨S.items,T⟩ K d) ⟨S.items.length+1,T,[],[F],fu N⟩ (.slice (some ⟨c.heap.size,0,none⟩) 1 1) L (R.out.keep B5) c.heap.size O5
      ⟨by show S.items.length+1≤_;omega,by show T≤_;omega,by simp,by simp,fun t ht=>by simp at ht;subst ht;rw [←eF];exact X.out.2.2.1,by show (fu N).length≤_;omega⟩ (by rw [bF]) (by simp) (by rw [bF];exact hn))
     have a7:=Lib.hid (U.out.trans (B5.mono b8));have b5:=Lib.hid z;have HF:=Lib.hid H;rw [Z] at HR;clear H eF B5 X5 O5 D z Z;go_wp2_with fail
     go_region_law (first
      | (go_simp;go_at_call 170;refine (b1.out _ (by first | exact (Below.refl _ _).drew | exact ((Below.refl _ _).alloc (Nat.le_refl _) _).drew | exact ((Below.refl _ _).drew).alloc (Nat.le_refl _) _)).mono ?_;rintro e w5 ⟨rfl,rfl⟩)
      | (go_simp;go_at_call 166;rw [b5.out];refine a5.out.mono ?_;rintro e w6 ⟨rfl,q',A6,B6⟩;have a4:=Lib.hid A6;have a8:=Lib.hid B6;clear A6 B6))
     all_goals
      go_wp2_with fail
      go_ret;exact ⟨.inr ⟨_,_,HR.out,rfl,a4.out⟩,a7.out.trans a8.out⟩
  ·have HT:Hid (S.takesF T m d=none):=Lib.hid (by unfold aa.takesF;rw [decide_eq_false u,Bool.and_false];rfl);have c8:T < S.time:=by omega
   clear u;go_wp2_with fail
   go_ret;exact ⟨.inl ⟨HT.out,rfl,j.out⟩,B2.out⟩
theorem nH {l:List UInt8} {m:aR} (h:bL l=some m):de m=true:=by
 unfold bL at h
 split at h
 ·cases h
 ·split at h
  ·rw [Option.bind_eq_some_iff] at h;obtain ⟨a,_,h⟩:=h
   split at h
   ·cases h;assumption
   ·cases h
  ·cases h
theorem qA {m:aR} (h:de m=true):1≤m.tos.length∧m.tos.length≤10:=by
 unfold de hY at h;simp only [Bool.and_eq_true,decide_eq_true_eq] at h;exact ⟨h.1.2.1.1,h.1.2.1.2⟩
theorem sY {l:List UInt8} {x:Nat×List Nat} (h:dJ l=some x):bC x.2=true:=by
 unfold dJ at h;rw [Option.bind_eq_some_iff] at h;obtain ⟨a,_,h⟩:=h
 split at h
 ·rename_i b
  rw [Bool.and_eq_true] at b
  cases h
  exact b.2
 ·cases h
theorem pv {l:List UInt8} {T d:Nat} {b:List Nat} (h:bO l=some (T,d,b)):bC b=true:=by
 unfold bO at h
 split at h
 ·cases h
 ·split at h
  ·rw [Option.bind_eq_some_iff] at h;obtain ⟨a,_,h⟩:=h;rw [Option.bind_eq_some_iff] at h;obtain ⟨x,c,h⟩:=h
   split at h
   ·cases h;exact sY c
   ·cases h
  ·cases h
theorem I7 {S b:aa} {m:aR} (a:S.Ok) (e:dq m) (d:1≤m.tos.length∧m.tos.length≤10) (h:S.takesM m=some b):b.Ok:=by
 unfold aa.takesM at h
 split at h
 ·rename_i c
  rw [Bool.and_eq_true,decide_eq_true_eq] at c
  cases h
  exact a.plus c.1 e d.1 d.2
 ·cases h
theorem I6 {S b:aa} {c:Nat} {d:List Nat} (a:S.Ok) (h:S.takesG c d=some b):b.Ok:=by
 unfold aa.takesG at h
 split at h
 ·cases h;exact a.outs _ _
 ·cases h
theorem I5 {S g:aa} {T a:Nat} {c:List Nat} (b:S.Ok) (l:bC c=true) (q:T≤1000000000) (u:S.items.length < 4294967295) (h:S.takesF T a c=some g):g.Ok:=by
 have d:bu S a c=true∧S.time≤T:=by
  unfold aa.takesF at h
  split at h
  ·rename_i d
   rwa [Bool.and_eq_true,decide_eq_true_eq] at d
  ·cases h
 obtain ⟨o,p⟩:=jP l d.1 d.2;have k:aa.Ok (aa.outs ⟨S.items,T⟩ (a - 1) c):=(b.time T).outs _ _
 by_cases j:(S.mailOf (a - 1)).frm=[]
 ·rw [o j] at h;cases h;exact k
 ·rw [p j] at h
  cases h
  have e:a - 1 < S.items.length:=by
   have:=d.1;unfold bu at this;simp only [Bool.and_eq_true,decide_eq_true_eq] at this;omega
  have m:dq (S.mailOf (a - 1)):=by rw [bR e];exact (b.sz _ (List.getElem_mem e)).1
  have s:(di (S.stayOf (a - 1)) c).length≤10:=by have:=mf (S.stayOf (a - 1)) c;have:=dp b (a - 1);omega
  have n:∀t∈di (S.stayOf (a - 1)) c,t.length≤255:=by
   intro t f;rw [jt l d.1,List.mem_map] at f;obtain ⟨i,_,rfl⟩:=f;exact mP m.2.2.2.2.1 i
  have r:=lh _ n;refine k.plus (by rw [bF]) ⟨by show S.items.length+1≤_;omega,by show T≤_;omega,by simp,by simp,fun t f=>by simp at f;subst f;exact m.2.2.1,by show (fu _).length≤_;omega⟩ (by simp) (by simp)
theorem jS {w:World} {b i n:Nat} {e:TypeId} {v:Value} {j:List Value} (h:w.ownsRow b e i v n j):∃a m c,v= .slice a m c:=by
 rcases h.2 with ⟨e,_⟩ | ⟨g,d,f,e,_⟩
 ·exact ⟨_,_,_,e⟩
 ·exact ⟨_,_,_,e⟩
theorem yE (j K W:Nat) (q:Nat→Nat) (vr:Value) (S:aa) (l:List UInt8) (n:Int) (w:World) (h:bf j w K W q vr S) (u:S.Ok) (hl:l.length≤1048576) (hm:w.cell? ⟨0,0,none⟩=some (.int .i64 n)) (hn:S.items.length < 4294967295):
  Calls Tryz.prog 75 #[.pointer (some ⟨K,0,none⟩),.string (bs l)] w fun e w'=>lU j K W q vr S (S.takes l) w e w'∧∀c,S.takes l=some c→c.Ok:=by
 have V:=h.le;have HH:=Lib.hid h;have o:=Lib.hid (Cs S l);have HM:=Lib.hid (jM l n w hl hm);clear h hm;go_enter Tryz.func75,Tryz.ntmps75;go_wp2_with fail
 refine HM.out.mono ?_;rintro e w1 ⟨b,E⟩;have L:=Lib.hid (HH.out.keep E);have B1:=Lib.hid E;clear E
 rcases b with ⟨d,rfl⟩ | ⟨J,v,d,rfl,z,hz⟩
 ·rw [d] at o;simp only [aV,kv];clear d;go_wp2_with fail
  refine (lx l _ hl).mono ?_;rintro e w3 ⟨b,F⟩;have M:=Lib.hid ((L.out.keep ((Below.refl _ _).alloc (Nat.le_refl _) _)).keep F);have N:=Lib.hid (((B1.out.mono V).alloc L.out.le _).trans (F.mono (Nat.le_trans L.out.le (by simp))));clear F
  rcases b with ⟨d,rfl⟩ | ⟨I,Y,v,d,rfl,z,s,x,y,H⟩
  ·rw [d] at o;clear d;go_wp2_with fail
   refine (mC l _ hl).mono ?_;rintro e w5 ⟨b,G⟩;have A5:=Lib.hid ((M.out.keep ((Below.refl _ _).alloc (Nat.le_refl _) _)).keep G);have O:=Lib.hid ((N.out.alloc M.out.le _).trans (G.mono (Nat.le_trans M.out.le (by simp))));clear G
   rcases b with ⟨d,rfl⟩ | ⟨T,I,Y,v,d,rfl,⟨z,s,x,y,H⟩,hT⟩
   ·rw [d] at o;have a:Hid (S.takes l=none):=Lib.hid o.out;clear d o;go_wp2_with fail
    go_ret;exact ⟨⟨.inl ⟨a.out,rfl,A5.out.keep ((Below.refl _ _).alloc (Nat.le_refl _) _)⟩,O.out.alloc A5.out.le _⟩,fun c A=>by rw [a.out] at A;cases A⟩
   ·have m:=pv d;rw [d] at o;have a:Hid (S.takes l=S.takesF T I Y):=Lib.hid o.out;obtain ⟨Q,X,U,rfl⟩:=jS z;obtain ⟨W6,D⟩:∃W6:World,w5.alloc (.cells #[.int .i64 I,.slice Q X U] 193)=W6:=⟨_,rfl⟩;have B6:Below w5.heap.size w5 W6:=by rw [←D];exact (Below.refl _ _).alloc (Nat.le_refl _) _
    have P:=Lib.hid (tL j K W q vr _ S T I Y W6 (A5.out.keep B6) u _ (ax z fun g R e _=>ae B6 e) s x y m hT hn);have a2:=Lib.hid (O.out.trans (B6.mono A5.out.le));have i:Hid (∀c,S.takes l=some c→c.Ok):=Lib.hid (fun c A=>I5 u m hT hn (by rw [←a.out];exact A));have a5:=Lib.hid D;clear d o B6 D z s x y H m hT;go_wp2_with fail
    rw [a5.out];refine P.out.mono ?_;rintro e w7 ⟨b,k⟩;have f:=Lib.hid (a2.out.trans k);clear k
    rcases b with ⟨p,rfl,r⟩ | ⟨c,Z,p,rfl,r⟩
    ·go_wp2_with fail
     go_ret;exact ⟨⟨.inl ⟨a.out.trans p,rfl,r⟩,f.out⟩,i.out⟩
    ·go_wp2_with fail
     go_ret;exact ⟨⟨.inr ⟨c,Z,a.out.trans p,rfl,r⟩,f.out⟩,i.out⟩
  ·rw [d] at o;have a:Hid (S.takes l=S.takesG I Y):=Lib.hid o.out;obtain ⟨Q,X,U,rfl⟩:=jS z;obtain ⟨W4,C⟩:∃W4:World,w3.alloc (.cells #[.int .i64 I,.slice Q X U] 193)=W4:=⟨_,rfl⟩;have B4:Below w3.heap.size w3 W4:=by rw [←C];exact (Below.refl _ _).alloc (Nat.le_refl _) _
   have P:=Lib.hid (xY j K W q vr _ S I Y W4 (M.out.keep B4) u (aC (ax z fun g R e _=>ae B4 e)) s x y (by omega));have a1:=Lib.hid (N.out.trans (B4.mono M.out.le));have i:Hid (∀c,S.takes l=some c→c.Ok):=Lib.hid (fun c A=>I6 u (by rw [←a.out];exact A));have a4:=Lib.hid C;clear d o B4 C z s x y H;go_wp2_with fail
   rw [a4.out];refine P.out.mono ?_;rintro e w7 ⟨b,k⟩;have f:=Lib.hid (a1.out.trans k);clear k
   rcases b with ⟨p,rfl,r⟩ | ⟨c,Z,p,rfl,r⟩
   ·go_wp2_with fail
    go_ret;exact ⟨⟨.inl ⟨a.out.trans p,rfl,r⟩,f.out⟩,i.out⟩
   ·go_wp2_with fail
    go_ret;exact ⟨⟨.inr ⟨c,Z,a.out.trans p,rfl,r⟩,f.out⟩,i.out⟩
 ·rw [d] at o;have a:Hid (S.takes l=S.takesM J):=Lib.hid o.out;have t:=qA (nH d);obtain ⟨Q,X,U,rfl⟩:=jS z;obtain ⟨W2,B⟩:∃W2:World,w1.alloc (.cells #[.int .i64 J.id,.int .i64 J.time,.string (bs J.frm),.slice Q X U,.string (bs J.body)] 45)=W2:=⟨_,rfl⟩;have B2:Below w1.heap.size w1 W2:=by rw [←B];exact (Below.refl _ _).alloc (Nat.le_refl _) _
  have P:=Lib.hid (xZ j K W q vr S J _ W2 (L.out.keep B2) _ (ax z fun g R e _=>ae B2 e) hz t.1 hn);have a0:=Lib.hid ((B1.out.mono V).trans (B2.mono L.out.le));have i:Hid (∀c,S.takes l=some c→c.Ok):=Lib.hid (fun c A=>I7 u hz t (by rw [←a.out];exact A));have a3:=Lib.hid B;simp only [aV];clear d t B2 B z hz o;go_wp2_with fail
  rw [a3.out];refine P.out.mono ?_;rintro e w7 ⟨b,k⟩;have f:=Lib.hid (a0.out.trans k);clear k
  rcases b with ⟨p,rfl,r⟩ | ⟨c,Z,p,rfl,r⟩
  ·go_wp2_with fail
   go_ret;exact ⟨⟨.inl ⟨a.out.trans p,rfl,r⟩,f.out⟩,i.out⟩
  ·go_wp2_with fail
   go_ret;exact ⟨⟨.inr ⟨c,Z,a.out.trans p,rfl,r⟩,f.out⟩,i.out⟩
end Go.Proofs.YtofpegbpgkkgkaaGreatDoor
