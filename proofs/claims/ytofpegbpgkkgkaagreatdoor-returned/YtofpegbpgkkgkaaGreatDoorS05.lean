import Derived.Test.YtofpegbpgkkgkaaGreatDoorS02
import Derived.Test.YtofpegbpgkkgkaaGreatDoorS03
import Derived.Laws.CopyRow
import Derived.Lib.SliceRun
namespace Go.Proofs.YtofpegbpgkkgkaaGreatDoor
set_option maxHeartbeats 8000000
set_option maxRecDepth 1000000
open Go.RowKit
structure bX where
 host:ByteArray
 doms:List ByteArray
 nets:List (Int×Int)
 users:List (ByteArray×ByteArray)
 most:Int
 size:Int
 waits:List Int
 life:Int
 room:Int
def jZ (w:World) (c:bX) (vD vN vU vW:Value):Prop:=
 bg w vD c.doms.length 1 (dK c.doms)∧bg w vN c.nets.length 2 (ik c.nets)∧bg w vU c.users.length 2 (cH c.users)∧bg w vW c.waits.length 1 (ib c.waits)
theorem jZ.below {w g:World} {c:bX} {b d e f:Value} (h:jZ w c b d e f) (a:Below w.heap.size w g):jZ g c b d e f:=⟨h.1.below a,h.2.1.below a,h.2.2.1.below a,h.2.2.2.below a⟩
def xt (c:bX):Prop:=
 c.host.size≤maxLen∧c.doms.length≤140737488351232∧(∀s∈c.doms,s.size≤maxLen)∧c.nets.length≤140737488351232∧c.users.length≤140737488351232∧(∀x∈c.users,x.1.size≤maxLen∧x.2.size≤maxLen)∧c.waits.length≤140737488351232
def bX.val (c:bX) (vD vN vU vW:Value):Value:= .agg #[.string c.host,vD,vN,vU,.int .i64 c.most,.int .i64 c.size,vW,.int .i64 c.life,.int .i64 c.room]
def ij (c:bX):Bool:=jj c.host.data.toList && oq c.doms && nr c.nets && kG c.users && cF c.most 1 10 && cF c.size 1 1000 && kI c.waits && cF c.life 1 1000000000 && cF c.room 0 1000000
theorem aE {w:World} {v:Value} {n d:Nat} {c:List Value} (h:bg w v n d c):∃a b,v= .slice a n b:=by
 obtain ⟨a,b,h,_⟩:=h.shape;exact ⟨a,b,h⟩
theorem Fq (c:bX) (vD vN vU vW:Value) (m:Int) (w:World) (h:jZ w c vD vN vU vW) (hz:xt c) (hm:w.cell? ⟨0,0,none⟩=some (.int .i64 m)):
  Calls Tryz.prog 68 #[.agg #[.string c.host,vD,vN,vU,.int .i64 c.most,.int .i64 c.size,vW,.int .i64 c.life,.int .i64 c.room]] w (eQ (ij c) w):=by
 obtain ⟨f,b,d,users,i,l,a,g,k⟩:=c;obtain ⟨z0,z1,z2,z3,z4,z5,N⟩:=hz;simp only at z0 z1 z2 z3 z4 z5 N h ⊢;have r:=Lib.hid (show ij ⟨f,b,d,users,i,l,a,g,k⟩=(jj f.data.toList && oq b && nr d && kG users && cF i 1 10 && cF l 1 1000 && kI a && cF g 1 1000000000 && cF k 0 1000000) from rfl)
 generalize ij ⟨f,b,d,users,i,l,a,g,k⟩=M at *
 obtain ⟨s,x,eD⟩:=aE h.1;obtain ⟨t,y,eN⟩:=aE h.2.1;obtain ⟨u,z,eU⟩:=aE h.2.2.1;obtain ⟨v,A,eW⟩:=aE h.2.2.2;simp only at eD eN eU eW;subst eD eN eU eW;have HA:=Lib.hid h;have h0:=eI hm;have Z2:=Lib.hid z2;have Z5:=Lib.hid z5;clear h z2 z5;go_enter Tryz.func68,Tryz.ntmps68;go_wp2_with fail
 have E:∀C:World,Below (w.heap.size+1) (w.alloc (.cells #[.string f,.slice s b.length x,.slice t d.length y,.slice u users.length z,.int .i64 i,.int .i64 l,.slice v a.length A,.int .i64 g,.int .i64 k] 30)) C→Below w.heap.size w C∧jZ C ⟨f,b,d,users,i,l,a,g,k⟩ (.slice s b.length x) (.slice t d.length y) (.slice u users.length z) (.slice v a.length A)∧C.cell? ⟨0,0,none⟩=some (.int .i64 m)∧∀j:Nat,C.cell? ⟨w.heap.size,j,none⟩=(#[.string f,.slice s b.length x,.slice t d.length y,.slice u users.length z,.int .i64 i,.int .i64 l,.slice v a.length A,.int .i64 g,.int .i64 k]:Array Value)[j]? :=by
  intro C hb;have K:Below w.heap.size w C:=((Below.refl _ _).alloc (Nat.le_refl _) _).trans (hb.mono (by omega));refine ⟨K,HA.out.below K,(K.cell h0).trans hm,fun j=>?_⟩;rw [hb.cell (p:=⟨w.heap.size,j,none⟩) (by show w.heap.size < w.heap.size+1;omega)];exact World.cell?_alloc_mark w _ 30 (0,0) j
 have R:=Lib.hid E;clear E HA hm;have S:Hid (Below (w.heap.size+1) (w.alloc (.cells #[.string f,.slice s b.length x,.slice t d.length y,.slice u users.length z,.int .i64 i,.int .i64 l,.slice v a.length A,.int .i64 g,.int .i64 k] 30)) (w.alloc (.cells #[.string f,.slice s b.length x,.slice t d.length y,.slice u users.length z,.int .i64 i,.int .i64 l,.slice v a.length A,.int .i64 g,.int .i64 k] 30))):=Below.refl _ _;have F:=R.out _ S.out;refine (iy f m _ z0 F.2.2.1).mono ?_;rintro e C ⟨rfl,T⟩;have H:Hid (Below (w.heap.size+1) (w.alloc (.cells #[.string f,.slice s b.length x,.slice t d.length y,.slice u users.length z,.int .i64 i,.int .i64 l,.slice v a.length A,.int .i64 g,.int .i64 k] 30)) C):=S.out.trans (T.mono (by simp));clear F T;have F:=R.out _ H.out;have X:=Lib.hid F.1;have c1:C.cell? ⟨w.heap.size,1,none⟩=some (.slice s b.length x):=F.2.2.2 1;have o:=Lib.hid F;clear F
 cases B:jj f.data.toList with
 | false=>
  go_wp2_with fail
  go_ret;exact eQ.mk false rfl (by rw [r.out,B];rfl) X.out
 | true=>
  go_wp2_with fail
  have F:=o.out;clear o;refine (qL _ b m _ F.2.1.1 z1 Z2.out F.2.2.1).mono ?_;rintro e w2 ⟨rfl,U⟩;have I:Hid (Below (w.heap.size+1) (w.alloc (.cells #[.string f,.slice s b.length x,.slice t d.length y,.slice u users.length z,.int .i64 i,.int .i64 l,.slice v a.length A,.int .i64 g,.int .i64 k] 30)) w2):=H.out.trans (U.mono (by have:=H.out.size;simpa using this));clear F U;have F:=R.out _ I.out;have Y:=Lib.hid F.1;have c2:w2.cell? ⟨w.heap.size,2,none⟩=some (.slice t d.length y):=F.2.2.2 2;have o:=Lib.hid F;clear F
  cases D:oq b with
  | false=>
   go_wp2_with fail
   go_ret;exact eQ.mk false rfl (by rw [r.out,B,D];rfl) Y.out
  | true=>
   go_wp2_with fail
   have F:=o.out;clear o;refine (wW _ d _ F.2.1.2.1 z3).mono ?_;rintro e w3 ⟨rfl,V⟩;have J:Hid (Below (w.heap.size+1) (w.alloc (.cells #[.string f,.slice s b.length x,.slice t d.length y,.slice u users.length z,.int .i64 i,.int .i64 l,.slice v a.length A,.int .i64 g,.int .i64 k] 30)) w3):=I.out.trans (V.mono (by have:=I.out.size;simpa using this));clear F V;have F:=R.out _ J.out;have Z:=Lib.hid F.1;have c3:w3.cell? ⟨w.heap.size,3,none⟩=some (.slice u users.length z):=F.2.2.2 3;have o:=Lib.hid F;clear F
   cases G:nr d with
   | false=>
    go_wp2_with fail
    go_ret;exact eQ.mk false rfl (by rw [r.out,B,D,G];rfl) Z.out
   | true=>
    go_wp2_with fail
    have F:=o.out;clear o;refine (wi _ users _ F.2.1.2.2.1 z4 Z5.out).mono ?_;rintro e Q ⟨rfl,W⟩;have a0:Hid (Below (w.heap.size+1) (w.alloc (.cells #[.string f,.slice s b.length x,.slice t d.length y,.slice u users.length z,.int .i64 i,.int .i64 l,.slice v a.length A,.int .i64 g,.int .i64 k] 30)) Q):=J.out.trans (W.mono (by have:=J.out.size;simpa using this));clear F W;have F:=R.out _ a0.out;have n:=Lib.hid F.1;have c4:Q.cell? ⟨w.heap.size,4,none⟩=some (.int .i64 i):=F.2.2.2 4;have c5:Q.cell? ⟨w.heap.size,5,none⟩=some (.int .i64 l):=F.2.2.2 5;have c6:Q.cell? ⟨w.heap.size,6,none⟩=some (.slice v a.length A):=F.2.2.2 6;have c7:Q.cell? ⟨w.heap.size,7,none⟩=some (.int .i64 g):=F.2.2.2 7;have c8:Q.cell? ⟨w.heap.size,8,none⟩=some (.int .i64 k):=F.2.2.2 8;have hW:=F.2.1.2.2.2;have O:=Lib.hid hW;clear hW;have o:=Lib.hid F;clear F
    cases L:kG users with
    | false=>
     go_wp2_with fail
     go_ret;exact eQ.mk false rfl (by rw [r.out,B,D,G,L];rfl) n.out
    | true=>
     go_wp2_with fail
     have F:=o.out;clear o;clear F
     cases P:cF i 1 10 with
     | false=>
      go_wp2_with (first | (go_at_call 108;refine (eO _ _ _ _).mono ?_;rintro e q ⟨rfl,rfl⟩) | (go_at_call 109;refine (gF _ a _ O.out N).mono ?_;rintro e q ⟨rfl,rfl⟩))
      go_ret;exact eQ.mk false rfl (by rw [r.out,B,D,G,L,P];rfl) n.out
     | true=>
      cases q5:cF l 1 1000 with
      | false=>
       go_wp2_with (first | (go_at_call 108;refine (eO _ _ _ _).mono ?_;rintro e q ⟨rfl,rfl⟩) | (go_at_call 109;refine (gF _ a _ O.out N).mono ?_;rintro e q ⟨rfl,rfl⟩))
       go_ret;exact eQ.mk false rfl (by rw [r.out,B,D,G,L,P,q5];rfl) n.out
      | true=>
       cases q6:kI a with
       | false=>
        go_wp2_with (first | (go_at_call 108;refine (eO _ _ _ _).mono ?_;rintro e q ⟨rfl,rfl⟩) | (go_at_call 109;refine (gF _ a _ O.out N).mono ?_;rintro e q ⟨rfl,rfl⟩))
        go_ret;exact eQ.mk false rfl (by rw [r.out,B,D,G,L,P,q5,q6];rfl) n.out
       | true=>
        cases q7:cF g 1 1000000000 with
        | false=>
         go_wp2_with (first | (go_at_call 108;refine (eO _ _ _ _).mono ?_;rintro e q ⟨rfl,rfl⟩) | (go_at_call 109;refine (gF _ a _ O.out N).mono ?_;rintro e q ⟨rfl,rfl⟩))
         go_ret;exact eQ.mk false rfl (by rw [r.out,B,D,G,L,P,q5,q6,q7];rfl) n.out
        | true=>
         cases q8:cF k 0 1000000 with
         | false=>
          go_wp2_with (first | (go_at_call 108;refine (eO _ _ _ _).mono ?_;rintro e q ⟨rfl,rfl⟩) | (go_at_call 109;refine (gF _ a _ O.out N).mono ?_;rintro e q ⟨rfl,rfl⟩))
          go_ret;exact eQ.mk false rfl (by rw [r.out,B,D,G,L,P,q5,q6,q7,q8];rfl) n.out
         | true=>
          go_wp2_with (first | (go_at_call 108;refine (eO _ _ _ _).mono ?_;rintro e q ⟨rfl,rfl⟩) | (go_at_call 109;refine (gF _ a _ O.out N).mono ?_;rintro e q ⟨rfl,rfl⟩))
          go_ret;exact eQ.mk true rfl (by rw [r.out,B,D,G,L,P,q5,q6,q7,q8];rfl) n.out
def JX (b:Bool):Int:=if b then 0 else 2
def zN (b:Bool) (w:World) (e:Ending) (w':World):Prop:=e= .returned (.int .i64 (JX b))∧Below w.heap.size w w'
theorem zN.mk {b:Bool} {w:World} {e:Ending} {a:World} (c:Bool) (f:e= .returned (.int .i64 (JX c))) (d:b=c) (g:Below w.heap.size w a):zN b w e a:=⟨by rw [f,d],g⟩
theorem EH (c:bX) (l n o p:Value) (m:Int) (w:World) (h:jZ w c l n o p) (k:xt c) (b:w.cell? ⟨0,0,none⟩=some (.int .i64 m)):
  Calls Tryz.prog 42 #[.agg #[.string c.host,l,n,o,.int .i64 c.most,.int .i64 c.size,p,.int .i64 c.life,.int .i64 c.room]] w (zN (ij c) w):=by
 obtain ⟨x,B,q⟩:=aE h.1;obtain ⟨y,C,r⟩:=aE h.2.1;obtain ⟨z,D,s⟩:=aE h.2.2.1;obtain ⟨A,E,t⟩:=aE h.2.2.2;subst q r s t;have d:=Lib.hid h;have i:=Lib.hid k;have u:=eI b;have g:=Lib.hid b;clear h k b;go_enter Tryz.func42,Tryz.ntmps42;go_wp2_with fail
 refine (Fq c _ _ _ _ m _ (d.out.below ((Below.refl _ _).alloc (Nat.le_refl _) _)) i.out ?_).mono ?_
 ·exact (((Below.refl w.heap.size w).alloc (Nat.le_refl _) _).cell u).trans g.out
 rintro e v ⟨rfl,a⟩;have f:Hid (Below w.heap.size w v):=((Below.refl _ _).alloc (Nat.le_refl _) _).trans (a.mono (by simp));clear a d i g
 cases j:ij c with
 | false=>
  go_wp2_with fail
  go_ret;exact zN.mk false rfl j f.out
 | true=>
  go_wp2_with fail
  go_ret;exact zN.mk true rfl j f.out
def jb (l:List UInt8):List UInt8×Bool:=((fq l).1++64::(fq l).2.1,(fq l).2.2)
theorem xv (l:List UInt8):(fq l).1.length≤20∧(fq l).2.1.length≤40:=by
 unfold fq
 split
 ·rename_i h
  simp only [Bool.and_eq_true] at h;obtain ⟨a,b⟩:=h;simp only [p8,jj,Bool.and_eq_true,decide_eq_true_eq] at a b;simp only [Lib.toLowerA,List.length_map];omega
 ·simp
def dH (l:List UInt8):Bool:=(jb l).2 && ((jb l).1 == l)
def yW (l:List (List UInt8)) (k:Nat):Bool:=(List.range k).all fun j=> !(l.getD j [] == l.getD k [])
def oG (l:List (List UInt8)) (k:Nat):Bool:=dH (l.getD k []) && yW l k
def qp (n T:Nat) (m:aX):Bool:=decide (m.id=n+1) && decide (T≤m.time) && decide (m.time≤1000000000) && decide (1≤m.tos.length) && decide (m.tos.length≤10) && decide (m.body.length≤1000) && (m.frm.isEmpty || dH m.frm) && (List.range m.tos.length).all (oG m.tos)
theorem qG {n k:Nat} {q:Nat→Bool} (h:k < n) (b:q k=false):(List.range n).all q=false:=by
 cases a:(List.range n).all q with
 | false=>rfl
 | true=>
  have:=List.all_eq_true.1 a k (List.mem_range.2 h);rw [b] at this;cases this
theorem Gl {k:Nat} {q:Nat→Bool}:(List.range (k+1)).all q=((List.range k).all q && q k):=by
 rw [List.range_succ,List.all_append];simp
theorem tS (a b:List UInt8):((bs a).toList == (bs b).toList)=(a == b):=by
 rw [Lib.toList_data,Lib.toList_data,aI,aI]
def lh (l:List Nat) (i:Nat):Bool:=decide (i=0) || decide (l.getD (i - 1) 0 < l.getD i 0)
def bF (l:List Nat):Bool:=(List.range l.length).all (lh l)
theorem zh (v:Value) (l:List Nat) (w:World) (h:bg w v l.length 1 (aZ l)) (O:l.length≤255):
  Calls Tryz.prog 221 #[v] w fun e r=>e= .returned (.bool (bF l))∧∃n,r=w.drewN n:=by
 obtain ⟨a,G,rfl,_⟩:=h.one;have s:=Lib.hid h;have I:(l.length:Int)≤255:=by omega
 clear h;go_enter Tryz.func221,Tryz.ntmps221;go_wp2_with fail
 go_loopw [3] (fun i r=>∃j q:Nat,(j+1≤l.length∨j=0)∧i= .int .i64 ((j:Int)+1)∧Hid ((List.range (j+1)).all (lh l)=true)∧r=w.drewN q) (fun i _=>l.length - (intOf i).toNat)
 case atStart=>exact ⟨0,0,.inr rfl,rfl,Lib.hid (by simp [lh]),rfl⟩
 case round=>
  obtain ⟨j,q,g,rfl,o,rfl⟩:=hrel
  by_cases c:j+1 < l.length
  ·have D:(j:Int)+1 < (l.length:Int):=by omega
   have d:j < l.length:=by omega
   have C:(j:Int) < (l.length:Int):=by omega
   have J:IntKind.i64.wrap ((j:Int)+1 - 1)=(j:Int):=by rw [IntKind.wrap_i64];omega
   have K:IntKind.i64.wrap (j:Int)=(j:Int):=by rw [IntKind.wrap_i64];omega
   obtain ⟨b,m,rfl,_,B⟩:=s.out.elem j d;obtain ⟨L,E,e,_,f⟩:=s.out.elem (j+1) c;injection e with e;injection e with e1 e2;subst e1 e2;have M:w.cell? ⟨b,m+j,none⟩=some (.int .i64 (l[j]:Int)):=by rw [B];simp [aZ,d]
   have N:w.cell? ⟨b,m+(j+1),none⟩=some (.int .i64 (l[j+1]:Int)):=by rw [f];simp [aZ,c]
   have u:=Lib.hid (show l.getD j 0=l[j] by rw [List.getD_eq_getElem?_getD,List.getElem?_eq_getElem d];rfl);have z:=Lib.hid (show l.getD (j+1) 0=l[j+1] by rw [List.getD_eq_getElem?_getD,List.getElem?_eq_getElem c];rfl)
   generalize l[j]=x at *
   generalize l[j+1]=y at *
   clear B f g
   cases t:decide (y≤x) with
   | true=>
    have k:y≤x:=by simpa using t
    have p:Hid (bF l=false):=Lib.hid (qG c (by unfold lh;rw [z.out,show j+1 - 1=j by omega,u.out,decide_eq_false (show ¬x < y by omega)];rfl));go_wp2_with fail
    go_quiet (fail)
    go_wp2_with fail
    go_ret;exact ⟨by rw [p.out];rfl,_,by simp;rfl⟩
   | false=>
    have k:x < y:=by simpa using t
    have F:Hid ((List.range (j+1+1)).all (lh l)=true):=Lib.hid (by rw [Gl,o.out];unfold lh;rw [z.out,show j+1 - 1=j by omega,u.out,decide_eq_true k];simp);go_wp2_with fail
    go_quiet (fail)
    go_wp2_with fail
    exact ⟨⟨j+1,q+nq,.inl (by omega),congrArg (Value.int .i64) (by omega),F,rfl⟩,by simp [intOf];omega⟩
  ·have p:Hid (bF l=true):=Lib.hid (by
    rcases g with g | g
    ·have:l.length=j+1:=by omega
     unfold bF;rw [this];exact o.out
    ·subst g
     rcases Nat.eq_zero_or_pos l.length with A | A
     ·unfold bF;rw [A];rfl
     ·have:l.length=1:=by omega
      unfold bF;rw [this];exact o.out)
   have H:(l.length:Int)≤(j:Int)+1:=by omega
   go_wp2_with fail
   go_ret;exact ⟨by rw [p.out];rfl,q,rfl⟩
theorem eh (l:List (List UInt8)) (k:Nat) (h:k < l.length):(cm l)[k]? =some (.string (bs l[k])):=by simp [cm,h]
theorem qi {l:List (List UInt8)} {t:List UInt8} {k:Nat} (b:k < l.length) (h:t ∉ l.take k) (c:¬t=l[k]):t ∉ l.take (k+1):=by
 rw [List.take_succ_eq_append_getElem b,List.mem_append,List.mem_singleton];rintro (a | a)
 ·exact h a
 ·exact c a
theorem zf (l:List (List UInt8)) (t:List UInt8) (v:Value) (w:World) (h:bg w v l.length 1 (cm l)) (z:l.length≤255):
  Calls Tryz.prog 237 #[v,.string (bs t)] w fun e x=>∃r:Int,e= .returned (.int .i64 r)∧(-1≤r∧r≤255)∧(0≤r ↔ t∈l)∧w=x:=by
 obtain ⟨a,q,rfl,n⟩:=h.one;have p:=Lib.hid n;clear n h;go_enter Tryz.func237,Tryz.ntmps237;go_wp2_with fail
 go_loop [8] (fun i=>∃k:Nat,k≤l.length∧i= .int .i64 k∧Hid (t ∉ l.take k)) (fun i=>l.length - (intOf i).toNat)
 case atStart=>exact ⟨0,Nat.zero_le _,rfl,Lib.hid (by simp)⟩
 case round=>
  obtain ⟨k,y,rfl,m⟩:=hrel
  by_cases c:k < l.length
  ·have o:(k:Int) < (l.length:Int):=by omega
   obtain ⟨b,u,rfl,_,d⟩:=p.out k c;rw [eh l k c] at d
   by_cases f:t=l[k]
   ·have s:((bs t).toList == (bs l[k]).toList)=true:=by rw [tS];simpa using f
    have g:Hid (t∈l):=Lib.hid (by rw [f];exact List.getElem_mem c);clear f;go_wp2_with fail
    go_ret;exact ⟨_,rfl,by omega,⟨fun _=>g.out,fun _=>by omega⟩,rfl⟩
   ·have s:((bs t).toList == (bs l[k]).toList)=false:=by rw [tS];simpa using f
    have g:=Lib.hid (qi c m.out f);clear f;go_wp2_with fail
    exact ⟨⟨k+1,by omega,by go_num,g⟩,by simp [intOf];omega⟩
  ·have j:k=l.length:=by omega
   subst j
   have g:Hid (t ∉ l):=Lib.hid (by
    have:=m.out
    rwa [List.take_length] at this)
   go_wp2_with fail
   go_ret;exact ⟨_,rfl,by omega,⟨fun h=>by omega,fun h=>absurd h g.out⟩,rfl⟩
theorem mw (l:List (List UInt8)) (t:List UInt8) (v:Value) (w:World) (h:bg w v l.length 1 (cm l)) (g:l.length≤255):
  Calls Tryz.prog 201 #[v,.string (bs t)] w fun e i=>e= .returned (.bool (l.contains t))∧w=i:=by
 have c:=zf l t v w h g;obtain ⟨a,f,rfl,_⟩:=h.one;clear h;go_enter Tryz.func201,Tryz.ntmps201;go_wp2_with fail
 refine c.mono ?_;rintro e k ⟨r,rfl,j,b,rfl⟩;have d:Hid (decide (0≤r)=l.contains t):=Lib.hid (by rw [Bool.eq_iff_iff,decide_eq_true_iff,List.contains_iff_mem];exact b);clear b c;go_wp2_with fail
 go_ret;exact ⟨cG d.out,rfl⟩
def iZ (addr:Int) (x:Int×Int):Bool:=decide (addr / 2 ^ (32 - x.2).toNat=x.1 / 2 ^ (32 - x.2).toNat)
theorem AK (c:bX) (O P Q R:Value) (a:Int) (w:World) (h:jZ w c O P Q R) (hn:c.nets.length≤5) (K:∀x∈c.nets,0≤x.2∧x.2≤32):
  Calls Tryz.prog 61 #[.agg #[.string c.host,O,P,Q,.int .i64 c.most,.int .i64 c.size,R,.int .i64 c.life,.int .i64 c.room],.int .i64 a] w fun e B=>e= .returned (.bool (c.nets.any (iZ a)))∧Below w.heap.size w B:=by
 obtain ⟨U,Y,eD⟩:=aE h.1;obtain ⟨W,cU,eU⟩:=aE h.2.2.1;obtain ⟨X,cW,eW⟩:=aE h.2.2.2;obtain ⟨V,Z,eN,J⟩:=h.2.1.shape;subst eD eN eU eW;obtain ⟨y,m⟩:∃y:World,w.alloc (.cells #[.string c.host,.slice U c.doms.length Y,.slice V c.nets.length Z,.slice W c.users.length cU,.int .i64 c.most,.int .i64 c.size,.slice X c.waits.length cW,.int .i64 c.life,.int .i64 c.room] 30)=y:=⟨_,rfl⟩;have C:Below w.heap.size w y:=by rw [←m];exact (Below.refl _ _).alloc (Nat.le_refl _) _
 have F:=Lib.hid J;have S:=Lib.hid K;have s:=Lib.hid C;have v:=Lib.hid m;clear h J K C m;go_enter Tryz.func61,Tryz.ntmps61;go_wp2_with fail
 rw [v.out];go_loopw [6,7,11] (fun _ _ i B=>∃k:Nat,k≤c.nets.length∧i= .int .i64 k∧Hid ((c.nets.take k).any (iZ a)=false)∧Hid (Below w.heap.size w B)) (fun _ _ i _=>c.nets.length - (intOf i).toNat)
 case atStart=>exact ⟨0,Nat.zero_le _,rfl,Lib.hid rfl,s⟩
 case round=>
  obtain ⟨k,hk,rfl,t,o⟩:=hrel
  by_cases g:k < c.nets.length
  ·have L:(k:Int) < (c.nets.length:Int):=by omega
   obtain ⟨b,r,rfl,p,f⟩:=F.out k 0 g (by omega);obtain ⟨b',N,z,_,d⟩:=F.out k 1 g (by omega);injection z with z;injection z with e1 e2 _;subst e1 e2;rw [Nat.add_zero,Hw c.nets k g] at f;rw [Eo c.nets k g] at d;have q:=S.out c.nets[k] (List.getElem_mem g);have G:Hid ((c.nets.take (k+1)).any (iZ a)=iZ a c.nets[k]):=Lib.hid (by rw [List.take_succ_eq_append_getElem g,List.any_append,t.out];simp);have E:Hid (iZ a c.nets[k]=true→c.nets.any (iZ a)=true):=Lib.hid (fun e=>List.any_eq_true.2 ⟨_,List.getElem_mem g,e⟩);obtain ⟨x,H⟩:∃x,c.nets[k]=x:=⟨_,rfl⟩;rw [H] at f d q G E;obtain ⟨n,l⟩:=x;simp only at f d q;have d0:wr.cell? ⟨b,r+k * 2,none⟩=some (.int .i64 n):=(o.out.cell (by exact p)).trans f;have d1:wr.cell? ⟨b,r+k * 2+1,none⟩=some (.int .i64 l):=(o.out.cell (by exact p)).trans d;have a1:IntKind.i64.wrap (32 - l)=32 - l:=by rw [IntKind.wrap_i64];omega
   have a0:¬(32 - l < 0):=by omega
   have M:(0:Int)≤32 - l:=by omega
   clear H f d;go_wp2_with fail
   go_quiet (fail)
   have D:=Lib.hid ((o.out.alloc o.out.size (.cells #[.int .i64 n,.int .i64 l] 77)).trans (bA nq _ _))
   by_cases j:a / 2 ^ (32 - l).toNat=n / 2 ^ (32 - l).toNat
   ·have hb:(a / 2 ^ (32 - l).toNat == n / 2 ^ (32 - l).toNat)=true:=by rw [beq_iff_eq];exact j
    have T:=Lib.hid (E.out (by unfold iZ;simpa using j));clear j;go_wp2_with fail
    go_ret;exact ⟨by rw [T.out];rfl,D.out⟩
   ·have hb:(a / 2 ^ (32 - l).toNat == n / 2 ^ (32 - l).toNat)=false:=by rw [beq_eq_false_iff_ne];exact j
    have I:=G.out.trans (show iZ a (n,l)=false by unfold iZ;simpa using j);have u:=Lib.hid I;clear j I;go_wp2_with fail
    exact ⟨⟨k+1,by omega,by go_num,u,D⟩,by simp [intOf];omega⟩
  ·have A:k=c.nets.length:=by omega
   subst A;rw [List.take_length] at t;go_wp2_with fail
   go_ret;exact ⟨by rw [t.out];rfl,o.out⟩
end Go.Proofs.YtofpegbpgkkgkaaGreatDoor
