import Derived.Test.YtofpegbpgkkgkaaGreatDoorS02
import Derived.Laws.CopyRow
import Derived.Test.YtofpegbpgkkgkaaGreatDoorChecked
import Derived.Conc.LoneCalls
import Derived.KernelRfl
import Derived.Deep.AppendLies
import Derived.Defers
import Derived.Lib.SliceRun
import Derived.Deep.RegionLaw
import Derived.BigRegion
import Derived.Deep.Onto
import Derived.Lib.FrozenHead
import Derived.Maps.OwnSet
import Derived.WalkArith
import Derived.Lib.LaidTab
import Derived.WalkSmall
import Derived.Lib.SlBytesConst
import Derived.Sort.OwnSortedInts
namespace Go.Proofs.YtofpegbpgkkgkaaGreatDoor
set_option maxHeartbeats 8000000
set_option maxRecDepth 1000000
open Go.RowKit
theorem jQ (s:ByteArray) (w:World) (c:s.size≤maxLen):Calls Tryz.prog 160 #[.string s] w fun e d=>e= .returned (.bool (mF s.data.toList))∧d=w:=
 (uq s w c).mono fun _ _ ⟨a,b⟩=>⟨a,b.symm⟩
def mq (l:List (ByteArray×ByteArray)) (k:Nat):Bool:=mF (l.getD k (ByteArray.empty,ByteArray.empty)).1.data.toList && mF (l.getD k (ByteArray.empty,ByteArray.empty)).2.data.toList && !qT (l.take k) (l.getD k (ByteArray.empty,ByteArray.empty)).1
def kG (l:List (ByteArray×ByteArray)):Bool:=decide (l.length≤5) && (List.range l.length).all (mq l)
theorem DR (l:List (ByteArray×ByteArray)) (k:Nat) (h:k≤l.length):cH (l.take k)=(cH l).take (k * 2):=by
 induction l generalizing k with
 | nil=>simp [cH]
 | cons x r ih=>
  cases k with
  | zero=>simp [cH]
  | succ k=>
   have:=ih k (by simpa using h);rw [show (k+1) * 2=k * 2+1+1 by omega]
   simp [cH] at this ⊢;exact this
theorem xq (l:List (ByteArray×ByteArray)):(cH l).length=l.length * 2:=by
 induction l with
 | nil=>rfl
 | cons x r ih=>simp [cH] at ih ⊢;omega
theorem DD {w:World} {b d:Nat} {l:List (ByteArray×ByteArray)} (h:∀j:Nat,j < l.length * 2→w.cell? ⟨b,d+j,none⟩=(cH l)[j]?) (k:Nat) (g:k≤l.length) (a:Nat) (e:k≤a):bg w (.slice (some ⟨b,d,none⟩) k a) (l.take k).length 2 (cH (l.take k)):=by
 have c:(l.take k).length=k:=by rw [List.length_take,Nat.min_eq_left g]
 refine ⟨xq _,.inr ⟨b,d,a,by rw [c],by rw [c];exact e,fun j f=>?_⟩⟩
 rw [c] at f;rw [h j (by omega),DR l k g,List.getElem?_take_of_lt f]
theorem wi (v:Value) (l:List (ByteArray×ByteArray)) (w:World) (h:bg w v l.length 2 (cH l)) (hl:l.length≤140737488351232) (X:∀x∈l,x.1.size≤maxLen∧x.2.size≤maxLen):
  Calls Tryz.prog 107 #[v] w (eQ (kG l) w):=by
 have I:=Lib.hid h;obtain ⟨a,B,rfl,W⟩:=h.shape;have M:=Lib.hid W;have U:=Lib.hid X;clear W h X
 by_cases h5:5 < l.length
 ·go_enter Tryz.func107,Tryz.ntmps107;go_wp2
  go_ret;exact eQ.mk false rfl (by simp [kG];intro h;omega) (Below.refl _ _)
 ·have Z:decide (5 < (l.length:Int))=false:=by simp;omega
  have S:Hid (kG l=(List.range l.length).all (mq l)):=by
   show _=_;rw [kG,decide_eq_true (by omega),Bool.true_and]
  go_enter Tryz.func107,Tryz.ntmps107;go_wp2
  go_loopw [10] (fun i D=>∃k:Nat,k≤l.length∧i= .int .i64 k∧Hid (∀(j:Nat),j < k→mq l j=true)∧Below w.heap.size w D) (fun i _=>l.length - (intOf i).toNat)
  case atStart=>exact ⟨0,Nat.zero_le _,rfl,(fun j a2=>by omega),Below.refl _ _⟩
  case round=>
   obtain ⟨k,hk,rfl,T,d⟩:=hrel;have y:=Lib.hid d
   by_cases f:k < l.length
   ·obtain ⟨b,P,rfl,F,C⟩:=M.out k 0 f (by decide);obtain ⟨E,c,V,_,q⟩:=M.out k 1 f (by decide)
    obtain ⟨rfl,rfl⟩:E=b∧c=P:=by
     have:=(Option.some.inj V).symm;simp at this;exact this
    obtain ⟨x,G⟩:∃x,l[k]=x:=⟨_,rfl⟩
    have a0:wr.cell? ⟨E,c+k * 2,none⟩=some (.string x.1):=by
     rw [d.cell (p:=⟨E,c+k * 2,none⟩) F];rw [Nat.add_zero] at C;rw [C,tp l k f,G]
    have a1:wr.cell? ⟨E,c+k * 2+1,none⟩=some (.string x.2):=by
     rw [d.cell (p:=⟨E,c+k * 2+1,none⟩) F];rw [←Nat.add_assoc] at q;rw [q,qD l k f,G]
    have H:=U.out l[k] (List.getElem_mem f);rw [G] at H;obtain ⟨L,R⟩:=H
    have t:Hid (∀(D:World),Below w.heap.size w D→bg D (.slice (some ⟨E,c,none⟩) k B) (l.take k).length 2 (cH (l.take k))):=by
     show ∀_,_;intro D N;refine DD (fun j J=>?_) k hk B (by have:=I.out.cap;omega);obtain ⟨a4,⟨h0,_⟩ | ⟨b2,o2,c2,r,_,O⟩⟩:=I.out.below N
     ·omega
     ·injection r with r;injection r with r;injection r with e1 e2;subst e1 e2;exact O j J
    have s:Hid (mq l k=(mF x.1.data.toList && mF x.2.data.toList && !qT (l.take k) x.1)):=by
     show _=_;have:l.getD k (ByteArray.empty,ByteArray.empty)=x:=by rw [List.getD_eq_getElem?_getD,List.getElem?_eq_getElem f,←G];rfl
     rw [mq,this]
    have m:Hid (mq l k=false→kG l=false):=by
     show _→_;intro hf;rw [S.out]
     cases e:(List.range l.length).all (mq l) with
     | false=>rfl
     | true=>
      rw [List.all_eq_true] at e;have:=e k (List.mem_range.2 f);rw [hf] at this;cases this
    have a3:(k:Int)≤(B:Int):=by have:=I.out.cap;omega
    have g:∀o,Below w.heap.size w (wr.alloc o).drew:=fun o=>(y.out.alloc y.out.size o).drew;have u:∀o,w.heap.size≤(wr.alloc o).drew.heap.size:=fun o=>(g o).size;clear C q M d G V I U
    cases K:mF x.1.data.toList with
    | false=>
     have A:=Lib.hid (m.out (by rw [s.out,K];rfl));go_wp2_with fail
     go_quiet ((go_at_call 160;exact Calls.quiet_of_same (jQ _ _ L)))
     go_wp2_with fail
     go_ret;exact eQ.mk false rfl A.out ((y.out.alloc y.out.size _).trans (bA _ _ _))
    | true=>
     cases Q:mF x.2.data.toList with
     | false=>
      have A:=Lib.hid (m.out (by rw [s.out,K,Q];rfl));go_wp2_with fail
      go_quiet ((go_at_call 160;exact Calls.quiet_of_same (jQ _ _ (by first | exact L | exact R))))
      go_wp2_with fail
      go_ret;exact eQ.mk false rfl A.out ((y.out.alloc y.out.size _).trans (bA _ _ _))
     | true=>
      cases Y:qT (l.take k) x.1 with
      | true=>
       have A:=Lib.hid (m.out (by rw [s.out,K,Q,Y];rfl));go_wp2_with fail
       go_region_with (first
        | (go_at_call 160;refine (jQ _ _ ?_).mono ?_;(first | exact L | exact R);rintro e D ⟨rfl,rfl⟩)
        | (go_at_call 161;refine (rF _ (l.take k) _ _ ?_ ?_).mono ?_;(exact t.out _ (g _));(rw [List.length_take];omega);rintro e w1 ⟨rfl,n⟩;have z:=Lib.hid ((g _).trans (n.mono (u _)));clear n))
       all_goals
        go_wp2_with fail
        go_ret;exact eQ.mk false rfl A.out z.out
      | false=>
       have A:Hid (mq l k=true):=by show _=_;rw [s.out,K,Q,Y];rfl
       go_wp2_with fail
       go_region_with (first
        | (go_at_call 160;refine (jQ _ _ ?_).mono ?_;(first | exact L | exact R);rintro e D ⟨rfl,rfl⟩)
        | (go_at_call 161;refine (rF _ (l.take k) _ _ ?_ ?_).mono ?_;(exact t.out _ (g _));(rw [List.length_take];omega);rintro e w1 ⟨rfl,n⟩;have z:=Lib.hid ((g _).trans (n.mono (u _)));clear n))
       all_goals
        go_wp2_with fail
        refine ⟨⟨k+1,by omega,by go_num,fun j J=>?_,z.out⟩,by simp [intOf];omega⟩
        by_cases e:j < k
        ·exact T.out j e
        ·rw [show j=k by omega,A.out]
   ·clear d;go_wp2
    go_ret;refine eQ.mk true rfl ?_ y.out;rw [S.out,List.all_eq_true];intro j J;exact T.out j (by have:=List.mem_range.1 J;omega)
structure bX where
 host:ByteArray
 doms:List ByteArray
 nets:List (Int×Int)
 users:List (ByteArray×ByteArray)
 most:Int
 size:Int
 waits:List Int
 life:Int
 room:Int
def jZ (w:World) (c:bX) (vD vN vU vW:Value):Prop:=
 bg w vD c.doms.length 1 (dK c.doms)∧bg w vN c.nets.length 2 (ik c.nets)∧bg w vU c.users.length 2 (cH c.users)∧bg w vW c.waits.length 1 (ib c.waits)
theorem jZ.below {w g:World} {c:bX} {b d e f:Value} (h:jZ w c b d e f) (a:Below w.heap.size w g):jZ g c b d e f:=⟨h.1.below a,h.2.1.below a,h.2.2.1.below a,h.2.2.2.below a⟩
def xt (c:bX):Prop:=
 c.host.size≤maxLen∧c.doms.length≤140737488351232∧(∀s∈c.doms,s.size≤maxLen)∧c.nets.length≤140737488351232∧c.users.length≤140737488351232∧(∀x∈c.users,x.1.size≤maxLen∧x.2.size≤maxLen)∧c.waits.length≤140737488351232
def bX.val (c:bX) (vD vN vU vW:Value):Value:= .agg #[.string c.host,vD,vN,vU,.int .i64 c.most,.int .i64 c.size,vW,.int .i64 c.life,.int .i64 c.room]
def ij (c:bX):Bool:=jj c.host.data.toList && oq c.doms && nr c.nets && kG c.users && cF c.most 1 10 && cF c.size 1 1000 && kI c.waits && cF c.life 1 1000000000 && cF c.room 0 1000000
theorem aE {w:World} {v:Value} {n d:Nat} {c:List Value} (h:bg w v n d c):∃a b,v= .slice a n b:=by
 obtain ⟨a,b,h,_⟩:=h.shape;exact ⟨a,b,h⟩
theorem Fq (c:bX) (vD vN vU vW:Value) (m:Int) (w:World) (h:jZ w c vD vN vU vW) (hz:xt c) (hm:w.cell? ⟨0,0,none⟩=some (.int .i64 m)):
  Calls Tryz.prog 68 #[.agg #[.string c.host,vD,vN,vU,.int .i64 c.most,.int .i64 c.size,vW,.int .i64 c.life,.int .i64 c.room]] w (eQ (ij c) w):=by
 obtain ⟨f,b,d,users,i,l,a,g,k⟩:=c;obtain ⟨z0,z1,z2,z3,z4,z5,N⟩:=hz;simp only at z0 z1 z2 z3 z4 z5 N h ⊢;have r:=Lib.hid (show ij ⟨f,b,d,users,i,l,a,g,k⟩=(jj f.data.toList && oq b && nr d && kG users && cF i 1 10 && cF l 1 1000 && kI a && cF g 1 1000000000 && cF k 0 1000000) from rfl)
 generalize ij ⟨f,b,d,users,i,l,a,g,k⟩=M at *
 obtain ⟨s,x,eD⟩:=aE h.1;obtain ⟨t,y,eN⟩:=aE h.2.1;obtain ⟨u,z,eU⟩:=aE h.2.2.1;obtain ⟨v,A,eW⟩:=aE h.2.2.2;simp only at eD eN eU eW;subst eD eN eU eW;have HA:=Lib.hid h;have h0:=aC hm;have Z2:=Lib.hid z2;have Z5:=Lib.hid z5;clear h z2 z5;go_enter Tryz.func68,Tryz.ntmps68;go_wp2_with fail
 have E:∀C:World,Below (w.heap.size+1) (w.alloc (.cells #[.string f,.slice s b.length x,.slice t d.length y,.slice u users.length z,.int .i64 i,.int .i64 l,.slice v a.length A,.int .i64 g,.int .i64 k] 30)) C→Below w.heap.size w C∧jZ C ⟨f,b,d,users,i,l,a,g,k⟩ (.slice s b.length x) (.slice t d.length y) (.slice u users.length z) (.slice v a.length A)∧C.cell? ⟨0,0,none⟩=some (.int .i64 m)∧∀j:Nat,C.cell? ⟨w.heap.size,j,none⟩=(#[.string f,.slice s b.length x,.slice t d.length y,.slice u users.length z,.int .i64 i,.int .i64 l,.slice v a.length A,.int .i64 g,.int .i64 k]:Array Value)[j]? :=by
  intro C hb;have K:Below w.heap.size w C:=((Below.refl _ _).alloc (Nat.le_refl _) _).trans (hb.mono (by omega));refine ⟨K,HA.out.below K,(K.cell h0).trans hm,fun j=>?_⟩;rw [hb.cell (p:=⟨w.heap.size,j,none⟩) (by show w.heap.size < w.heap.size+1;omega)];exact World.cell?_alloc_mark w _ 30 (0,0) j
 have R:=Lib.hid E;clear E HA hm;have S:Hid (Below (w.heap.size+1) (w.alloc (.cells #[.string f,.slice s b.length x,.slice t d.length y,.slice u users.length z,.int .i64 i,.int .i64 l,.slice v a.length A,.int .i64 g,.int .i64 k] 30)) (w.alloc (.cells #[.string f,.slice s b.length x,.slice t d.length y,.slice u users.length z,.int .i64 i,.int .i64 l,.slice v a.length A,.int .i64 g,.int .i64 k] 30))):=Below.refl _ _;have F:=R.out _ S.out;refine (iy f m _ z0 F.2.2.1).mono ?_;rintro e C ⟨rfl,T⟩;have H:Hid (Below (w.heap.size+1) (w.alloc (.cells #[.string f,.slice s b.length x,.slice t d.length y,.slice u users.length z,.int .i64 i,.int .i64 l,.slice v a.length A,.int .i64 g,.int .i64 k] 30)) C):=S.out.trans (T.mono (by simp));clear F T;have F:=R.out _ H.out;have X:=Lib.hid F.1;have c1:C.cell? ⟨w.heap.size,1,none⟩=some (.slice s b.length x):=F.2.2.2 1;have o:=Lib.hid F;clear F
 cases B:jj f.data.toList with
 | false=>
  go_wp2_with fail
  go_ret;exact eQ.mk false rfl (by rw [r.out,B];rfl) X.out
 | true=>
  go_wp2_with fail
  have F:=o.out;clear o;refine (qL _ b m _ F.2.1.1 z1 Z2.out F.2.2.1).mono ?_;rintro e w2 ⟨rfl,U⟩;have I:Hid (Below (w.heap.size+1) (w.alloc (.cells #[.string f,.slice s b.length x,.slice t d.length y,.slice u users.length z,.int .i64 i,.int .i64 l,.slice v a.length A,.int .i64 g,.int .i64 k] 30)) w2):=H.out.trans (U.mono (by have:=H.out.size;simpa using this));clear F U;have F:=R.out _ I.out;have Y:=Lib.hid F.1;have c2:w2.cell? ⟨w.heap.size,2,none⟩=some (.slice t d.length y):=F.2.2.2 2;have o:=Lib.hid F;clear F
  cases D:oq b with
  | false=>
   go_wp2_with fail
   go_ret;exact eQ.mk false rfl (by rw [r.out,B,D];rfl) Y.out
  | true=>
   go_wp2_with fail
   have F:=o.out;clear o;refine (wW _ d _ F.2.1.2.1 z3).mono ?_;rintro e w3 ⟨rfl,V⟩;have J:Hid (Below (w.heap.size+1) (w.alloc (.cells #[.string f,.slice s b.length x,.slice t d.length y,.slice u users.length z,.int .i64 i,.int .i64 l,.slice v a.length A,.int .i64 g,.int .i64 k] 30)) w3):=I.out.trans (V.mono (by have:=I.out.size;simpa using this));clear F V;have F:=R.out _ J.out;have Z:=Lib.hid F.1;have c3:w3.cell? ⟨w.heap.size,3,none⟩=some (.slice u users.length z):=F.2.2.2 3;have o:=Lib.hid F;clear F
   cases G:nr d with
   | false=>
    go_wp2_with fail
    go_ret;exact eQ.mk false rfl (by rw [r.out,B,D,G];rfl) Z.out
   | true=>
    go_wp2_with fail
    have F:=o.out;clear o;refine (wi _ users _ F.2.1.2.2.1 z4 Z5.out).mono ?_;rintro e Q ⟨rfl,W⟩;have a0:Hid (Below (w.heap.size+1) (w.alloc (.cells #[.string f,.slice s b.length x,.slice t d.length y,.slice u users.length z,.int .i64 i,.int .i64 l,.slice v a.length A,.int .i64 g,.int .i64 k] 30)) Q):=J.out.trans (W.mono (by have:=J.out.size;simpa using this));clear F W;have F:=R.out _ a0.out;have n:=Lib.hid F.1;have c4:Q.cell? ⟨w.heap.size,4,none⟩=some (.int .i64 i):=F.2.2.2 4;have c5:Q.cell? ⟨w.heap.size,5,none⟩=some (.int .i64 l):=F.2.2.2 5;have c6:Q.cell? ⟨w.heap.size,6,none⟩=some (.slice v a.length A):=F.2.2.2 6;have c7:Q.cell? ⟨w.heap.size,7,none⟩=some (.int .i64 g):=F.2.2.2 7;have c8:Q.cell? ⟨w.heap.size,8,none⟩=some (.int .i64 k):=F.2.2.2 8;have hW:=F.2.1.2.2.2;have O:=Lib.hid hW;clear hW;have o:=Lib.hid F;clear F
    cases L:kG users with
    | false=>
     go_wp2_with fail
     go_ret;exact eQ.mk false rfl (by rw [r.out,B,D,G,L];rfl) n.out
    | true=>
     go_wp2_with fail
     have F:=o.out;clear o;clear F
     cases P:cF i 1 10 with
     | false=>
      go_wp2_with (first | (go_at_call 108;refine (cB _ _ _ _).mono ?_;rintro e q ⟨rfl,rfl⟩) | (go_at_call 109;refine (gF _ a _ O.out N).mono ?_;rintro e q ⟨rfl,rfl⟩))
      go_ret;exact eQ.mk false rfl (by rw [r.out,B,D,G,L,P];rfl) n.out
     | true=>
      cases q5:cF l 1 1000 with
      | false=>
       go_wp2_with (first | (go_at_call 108;refine (cB _ _ _ _).mono ?_;rintro e q ⟨rfl,rfl⟩) | (go_at_call 109;refine (gF _ a _ O.out N).mono ?_;rintro e q ⟨rfl,rfl⟩))
       go_ret;exact eQ.mk false rfl (by rw [r.out,B,D,G,L,P,q5];rfl) n.out
      | true=>
       cases q6:kI a with
       | false=>
        go_wp2_with (first | (go_at_call 108;refine (cB _ _ _ _).mono ?_;rintro e q ⟨rfl,rfl⟩) | (go_at_call 109;refine (gF _ a _ O.out N).mono ?_;rintro e q ⟨rfl,rfl⟩))
        go_ret;exact eQ.mk false rfl (by rw [r.out,B,D,G,L,P,q5,q6];rfl) n.out
       | true=>
        cases q7:cF g 1 1000000000 with
        | false=>
         go_wp2_with (first | (go_at_call 108;refine (cB _ _ _ _).mono ?_;rintro e q ⟨rfl,rfl⟩) | (go_at_call 109;refine (gF _ a _ O.out N).mono ?_;rintro e q ⟨rfl,rfl⟩))
         go_ret;exact eQ.mk false rfl (by rw [r.out,B,D,G,L,P,q5,q6,q7];rfl) n.out
        | true=>
         cases q8:cF k 0 1000000 with
         | false=>
          go_wp2_with (first | (go_at_call 108;refine (cB _ _ _ _).mono ?_;rintro e q ⟨rfl,rfl⟩) | (go_at_call 109;refine (gF _ a _ O.out N).mono ?_;rintro e q ⟨rfl,rfl⟩))
          go_ret;exact eQ.mk false rfl (by rw [r.out,B,D,G,L,P,q5,q6,q7,q8];rfl) n.out
         | true=>
          go_wp2_with (first | (go_at_call 108;refine (cB _ _ _ _).mono ?_;rintro e q ⟨rfl,rfl⟩) | (go_at_call 109;refine (gF _ a _ O.out N).mono ?_;rintro e q ⟨rfl,rfl⟩))
          go_ret;exact eQ.mk true rfl (by rw [r.out,B,D,G,L,P,q5,q6,q7,q8];rfl) n.out
def JX (b:Bool):Int:=if b then 0 else 2
def zN (b:Bool) (w:World) (e:Ending) (w':World):Prop:=e= .returned (.int .i64 (JX b))∧Below w.heap.size w w'
theorem zN.mk {b:Bool} {w:World} {e:Ending} {a:World} (c:Bool) (f:e= .returned (.int .i64 (JX c))) (d:b=c) (g:Below w.heap.size w a):zN b w e a:=⟨by rw [f,d],g⟩
theorem EH (c:bX) (l n o p:Value) (m:Int) (w:World) (h:jZ w c l n o p) (k:xt c) (b:w.cell? ⟨0,0,none⟩=some (.int .i64 m)):
  Calls Tryz.prog 42 #[.agg #[.string c.host,l,n,o,.int .i64 c.most,.int .i64 c.size,p,.int .i64 c.life,.int .i64 c.room]] w (zN (ij c) w):=by
 obtain ⟨x,B,q⟩:=aE h.1;obtain ⟨y,C,r⟩:=aE h.2.1;obtain ⟨z,D,s⟩:=aE h.2.2.1;obtain ⟨A,E,t⟩:=aE h.2.2.2;subst q r s t;have d:=Lib.hid h;have i:=Lib.hid k;have u:=aC b;have g:=Lib.hid b;clear h k b;go_enter Tryz.func42,Tryz.ntmps42;go_wp2_with fail
 refine (Fq c _ _ _ _ m _ (d.out.below ((Below.refl _ _).alloc (Nat.le_refl _) _)) i.out ?_).mono ?_
 ·exact (((Below.refl w.heap.size w).alloc (Nat.le_refl _) _).cell u).trans g.out
 rintro e v ⟨rfl,a⟩;have f:Hid (Below w.heap.size w v):=((Below.refl _ _).alloc (Nat.le_refl _) _).trans (a.mono (by simp));clear a d i g
 cases j:ij c with
 | false=>
  go_wp2_with fail
  go_ret;exact zN.mk false rfl j f.out
 | true=>
  go_wp2_with fail
  go_ret;exact zN.mk true rfl j f.out
theorem uk:(Tryz.prog.info? 9).map (fun i=>(i.zero,i.size,i.bytes))=some (some (.string ⟨#[]⟩),1,16):=by kernel_rfl
theorem G3:(Tryz.prog.info? 77).map (fun i=>(i.zero,i.size,i.bytes))=some (some (.agg #[.int .i64 0,.int .i64 0]),2,16):=by kernel_rfl
theorem E9:(Tryz.prog.info? 79).map (fun i=>(i.zero,i.size,i.bytes))=some (some (.agg #[.string ⟨#[]⟩,.string ⟨#[]⟩]),2,32):=by kernel_rfl
theorem GZ:(Tryz.prog.info? 3).map (fun i=>(i.zero,i.size,i.bytes))=some (some (.int .i64 0),1,8):=by kernel_rfl
theorem Ie (l:List ByteArray):∀u∈dK l,u.oneCell'=true:=by
 intro u a;obtain ⟨x,_,rfl⟩:=List.mem_map.1 a;rfl
theorem Ia (l:List Int):∀u∈ib l,u.oneCell'=true:=by
 intro u a;obtain ⟨x,_,rfl⟩:=List.mem_map.1 a;rfl
theorem Ib (l:List (Int×Int)):∀u∈ik l,u.oneCell'=true:=by
 intro u a;obtain ⟨x,_,h⟩:=List.mem_flatMap.1 a
 rcases List.mem_cons.1 h with rfl | h
 ·rfl
 ·rcases List.mem_cons.1 h with rfl | h
  ·rfl
  ·cases h
theorem FA (l:List (ByteArray×ByteArray)):∀u∈cH l,u.oneCell'=true:=by
 intro u a;obtain ⟨x,_,h⟩:=List.mem_flatMap.1 a
 rcases List.mem_cons.1 h with rfl | h
 ·rfl
 ·rcases List.mem_cons.1 h with rfl | h
  ·rfl
  ·cases h
open Go.Conc Go.RowKit
theorem IG (sb d s r:Nat) (g:Bool) (a:Array Value) (l:List UInt8) (w:World) (m:w.cell? ⟨sb,3,none⟩=some (.chan (some d))) (h:w.heap[d]? =some (.chan 3 a false s r g)) (b:a.size < 3) (o:l.length≤1048576):
  Calls Tryz.prog 62 #[.pointer (some ⟨sb,0,none⟩),.string (bs l)] w fun e j=>e= .returned (.tuple #[])∧w.setChan d 3 (a.push (.string (bs (l++[13,10])))) false (s+1) r g=j:=by
 have p:=aG l;have i:¬9223372036854775807 < l.length+2:=by omega
 refine calls_of_loneTo fun k=>?_
 have e:Frame.enter Tryz.prog 62 #[.pointer (some ⟨sb,0,none⟩),.string (bs l)] .normal=(base 62).at ⟨#[.pointer (some ⟨sb,0,none⟩),.string (bs l),undef,undef,undef,undef,undef,undef,undef,undef],[]⟩ [.code (Tryz.f62.body.getD .skip)]:=by
  simp [Frame.enter,Frame.at,Tryz.func62,base,Tryz.f62]
 rw [e];refine LoneTo.goes (n:=7) ?_;simp only [Tryz.f62,Option.getD_some]
 s_reg
 s_op
 s_op
 s_op
 s_op
 s_op
 s_op
 s_stop
 have f:(bs l++(⟨#[13,10]⟩:ByteArray))=bs (l++[13,10]):=(cE l [13,10]).symm;refine LoneTo.step (step_lone_send_room (c:=d) (cap:=3) (buf:=a) (s:=s) (r:=r) (tm:=g) (v:= .string (bs (l++[13,10]))) (stepG_comm (cases:=#[scase d (.string (bs (l++[13,10]))) (.tuple #[])]) (blocking:=true) (shape:= .send) (w':=w) rfl rfl (by decide) (by simp [execOp,scase,Act.eval,f])) h b) ?_;rw [Frame.finish_at]
 walk_nrm
 refine LoneTo.goes (n:=2) ?_
 s_c stepG_region_end
 s_c stepG_end
 s_stop
 refine LoneTo.done ⟨.returned (.tuple #[]),_,rfl,⟨rfl,rfl⟩,rfl,rfl,rfl,rfl,_,Tryz.func62,by simp [results,Tryz.f62,Frame.at]⟩
theorem aA {w j:World} {a i n:Nat} {e:TypeId} {v:Value} {k:List Value} (h:w.ownsRow a e i v n k) (p:∀g b,w.heap[g]? =some (.cells b e (0,0))→a≤g→j.heap[g]? =some (.cells b e (0,0))):j.ownsRow a e i v n k:=by
 obtain ⟨o,d⟩:=h;refine ⟨o,?_⟩
 rcases d with d | ⟨g,c,b,l,f,m,r⟩
 ·exact .inl d
 ·exact .inr ⟨g,c,b,l,f,p g b m f,r⟩
theorem ah {w:World} {k:Nat} {o:Obj} (h:w.heap[k]? =some o):k < w.heap.size:=(Array.getElem?_eq_some_iff.1 h).1
theorem ae {w a:World} (b:Below w.heap.size w a) {k:Nat} {o:Obj} (h:w.heap[k]? =some o):a.heap[k]? =some o:=(b.block k (ah h)).trans h
theorem aP {p:Nat} {w b:World} (c:aL p w b) {k:Nat} {o:Obj} (h:w.heap[k]? =some o) (a:k≠p):b.heap[k]? =some o:=(c.2 k a).trans h
structure aH (A:Nat→Prop) (w w':World):Prop where
 size:w.heap.size≤w'.heap.size
 block:∀k,k < w.heap.size→¬A k→w'.heap[k]? =w.heap[k]?
 still:dU w w'
theorem aH.refl (A:Nat→Prop) (w:World):aH A w w:=⟨Nat.le_refl _,fun _ _ _=>rfl,dU.refl w⟩
theorem aH.trans {A A1:Nat→Prop} {a b c:World} (h:aH A a b) (d:aH A1 b c) (i:∀k,k < a.heap.size→A1 k→A k):aH A a c:=
 ⟨Nat.le_trans h.size d.size,fun k f g=>(d.block k (Nat.lt_of_lt_of_le f h.size) (fun e=>g (i k f e))).trans (h.block k f g),h.still.trans d.still⟩
theorem aH.mono {A B:Nat→Prop} {a b:World} (h:aH A a b) (f:∀k,k < a.heap.size→A k→B k):aH B a b:=⟨h.size,fun k c d=>h.block k c (fun e=>d (f k c e)),h.still⟩
theorem aH.below {A:Nat→Prop} {a b:World} (h:Below a.heap.size a b):aH A a b:=⟨h.size,fun k c _=>h.block k c,dU.of_below h⟩
theorem aH.same {p:Nat} {a b:World} (h:aL p a b):aH (fun k=>k=p) a b:=⟨by rw [h.1];exact Nat.le_refl _,fun k _ c=>h.2 k c,h.3⟩
theorem aH.grown {a b:World} {c:Option Nat} (h:a.grownBy b c):aH (fun k=>c=some k) a b:=⟨h.size,fun k d f=>h.block k d (fun e=>f e.symm),⟨h.os,h.tape,h.output⟩⟩
theorem aH.some_ {A:Nat→Prop} {a b:World} (h:aH A a b) {k:Nat} {o:Obj} (e:a.heap[k]? =some o) (c:¬A k):b.heap[k]? =some o:=(h.block k (ah e) c).trans e
theorem Iv (sb:Nat) (a:Value) (u:FrameMode) (w:World) (h:w.cell? ⟨sb,7,none⟩=some a) (f:w.frozen? ⟨sb,7,none⟩=false):
  CallsD Tryz.prog 199 #[.pointer (some ⟨sb,0,none⟩)] u w fun e u' b=>u'=u∧(e= .returned (.tuple #[])∧b=w.setCell ⟨sb,7,none⟩ (.bool true)):=by
 go_enter_d Tryz.func199,Tryz.ntmps199
 go_wp2_with fail
 go_end0
 exact ⟨rfl,rfl⟩
theorem oa (sb:Nat) (a:Value) (u:FrameMode) (w:World) (h:w.cell? ⟨sb,8,none⟩=some a) (f:w.frozen? ⟨sb,8,none⟩=false):
  CallsD Tryz.prog 194 #[.pointer (some ⟨sb,0,none⟩)] u w fun e u' b=>u'=u∧(e= .returned (.tuple #[])∧b=w.setCell ⟨sb,8,none⟩ (.pointer none)):=by
 go_enter_d Tryz.func194,Tryz.ntmps194
 go_wp2_with fail
 go_end0
 exact ⟨rfl,rfl⟩
structure bT (w:World) (sb ch:Nat) (C:Array Value) (ls:List (List UInt8)):Prop where
 blk:w.heap[sb]? =some (.cells C 130 (0,0))
 size:C.size=9
 told:C[3]? =some (.chan (some ch))
 chan:∃s r,w.heap[ch]? =some (.chan 3 (ls.map fun l=>Value.string (bs l)).toArray false s r false)
theorem bT.cell {w:World} {sb a:Nat} {C:Array Value} {b:List (List UInt8)} (h:bT w sb a C b) (j:Nat):w.cell? ⟨sb,j,none⟩=C[j]? :=by rw [Lib.cell_of_heap h.blk]
theorem bT.frozen {w:World} {sb a:Nat} {C:Array Value} {b:List (List UInt8)} (h:bT w sb a C b) (j:Nat):w.frozen? ⟨sb,j,none⟩=false:=Lib.frozen_of_heap h.blk j
theorem bT.ne {w:World} {sb a:Nat} {C:Array Value} {c:List (List UInt8)} (h:bT w sb a C c):sb≠a:=fun e=>by
 obtain ⟨s,r,b⟩:=h.chan;have:=h.blk;rw [e,b] at this;simp at this
theorem bT.set {w:World} {sb a:Nat} {C:Array Value} {b:List (List UInt8)} (h:bT w sb a C b) (j:Nat) (e:j≠3) (v:Value):bT (w.setCell ⟨sb,j,none⟩ v) sb a (C.setIfInBounds j v) b:=by
 obtain ⟨s,r,d⟩:=h.chan;have c:aL sb w (w.setCell ⟨sb,j,none⟩ v):=(aL.refl _ _).setCell _;exact ⟨heap_setCell_same w sb j _ _ v h.blk,by simp [h.size],by rw [Array.getElem?_setIfInBounds_ne e];exact h.told,s,r,(c.2 a (Ne.symm h.ne)).trans d⟩
theorem bT.tell {w:World} {sb a:Nat} {C:Array Value} {b:List (List UInt8)} (h:bT w sb a C b) (j:b.length < 3) (l:List UInt8) (m:l.length≤1048576):
  Calls Tryz.prog 62 #[.pointer (some ⟨sb,0,none⟩),.string (bs l)] w fun e d=>e= .returned (.tuple #[])∧bT d sb a C (b++[l++[13,10]])∧aL a w d:=by
 obtain ⟨s,r,g⟩:=h.chan;refine (IG sb a s r false _ l w ((h.cell 3).trans h.told) g (by simpa using j) m).mono ?_;rintro e d ⟨rfl,rfl⟩;have c:a < w.heap.size:=(Array.getElem?_eq_some_iff.1 g).1;have f:aL a w (w.setChan a 3 ((b.map fun l=>Value.string (bs l)).toArray.push (.string (bs (l++[13,10])))) false (s+1) r false):=⟨by simp [World.setChan],fun k i=>by simp [World.setChan,Array.getElem?_setIfInBounds_ne (Ne.symm i)],⟨rfl,rfl,rfl⟩⟩
 exact ⟨rfl,⟨(f.2 sb h.ne).trans h.blk,h.size,h.told,s+1,r,by rw [Conc.heap_setChan w a 3 _ false (s+1) r false c];simp⟩,f⟩
theorem Iq (sb a:Nat) (C:Array Value) (w:World) (h:bT w sb a C []):
  Calls Tryz.prog 142 #[.pointer (some ⟨sb,0,none⟩)] w fun e g=>e= .returned (.tuple #[])∧bT g sb a (C.setIfInBounds 7 (.bool true)) [[50,50,49,32,98,121,101,13,10]]∧aH (fun k=>k=sb∨k=a) w g:=by
 have i:=Lib.hid (h.tell (by simp) [50,50,49,32,98,121,101] (by decide));have m:=h.size;clear h;go_enter_defers Tryz.func142,Tryz.ntmps142
 go_wp2_with fail
 refine i.out.mono ?_;rintro e n ⟨rfl,b,c⟩;obtain ⟨d,j⟩:∃d,C[7]? =some d:=⟨_,Array.getElem?_eq_getElem (by omega)⟩;go_wp2_with fail
 refine leaves_cons (f:=199) (args:=#[.pointer (some ⟨sb,0,none⟩)]) (by simp) (by simp [go_sem]) ?_;refine (Iv sb d .returning _ ((b.cell 7).trans j) (b.frozen 7)).mono ?_;rintro e u' l ⟨rfl,rfl,rfl⟩;exact ⟨_,results_none rfl _ _ _,rfl,b.set 7 (by decide) _,((aH.same c).mono (fun _ _ e=> .inr e)).trans (aH.same ((aL.refl _ _).setCell _)) (fun _ _ e=> .inl e)⟩
theorem aL.cell {b:Nat} {w d:World} (h:aL b w d) {a:Addr} (c:a.block≠b):d.cell? a=w.cell? a:=World.cell?_of_block (h.2 a.block c)
theorem FM (sb i:Nat) (C:Array Value) (w:World) (h:bT w sb i C []):
  Calls Tryz.prog 143 #[.pointer (some ⟨sb,0,none⟩)] w fun e d=>e= .returned (.tuple #[])∧bT d sb i (C.setIfInBounds 8 (.pointer none)) [[50,53,48,32,111,107,13,10]]∧(∀k,k≠sb→k≠i→d.heap[k]? =w.heap[k]?)∧dU w d∧d.heap.size=w.heap.size:=by
 have n:=Lib.hid (h.tell (by simp) [50,53,48,32,111,107] (by decide));have q:=h.size;clear h;go_enter_defers Tryz.func143,Tryz.ntmps143
 go_wp2_with fail
 refine n.out.mono ?_;rintro e m ⟨rfl,j,c⟩;obtain ⟨l,o⟩:∃l,C[8]? =some l:=⟨_,Array.getElem?_eq_getElem (by omega)⟩;have g:aL sb m (m.setCell ⟨sb,8,none⟩ (.pointer none)):=(aL.refl _ _).setCell _;go_wp2_with fail
 refine leaves_cons (f:=194) (args:=#[.pointer (some ⟨sb,0,none⟩)]) (by simp) (by simp [go_sem]) ?_;refine (oa sb l .returning _ ((j.cell 8).trans o) (j.frozen 8)).mono ?_;rintro e u' p ⟨rfl,rfl,rfl⟩;exact ⟨_,results_none rfl _ _ _,rfl,j.set 8 (by decide) _,fun k a b=>(g.2 k a).trans (c.2 k b),c.3.trans g.3,g.1.trans c.1⟩
theorem E0 (sb o l:Nat) (C:Array Value) (c:List UInt8) (w:World) (h:bT w sb o C []) (x:C[0]? =some (.pointer (some ⟨l,0,none⟩))) (y:w.cell? ⟨l,0,none⟩=some (.string (bs c))) (q:l≠sb) (H:c.length≤255):
  Calls Tryz.prog 144 #[.pointer (some ⟨sb,0,none⟩)] w fun e m=>e= .returned (.tuple #[])∧bT m sb o ((C.setIfInBounds 5 (.bool true)).setIfInBounds 8 (.pointer none)) [[50,53,48,32]++c++[13,10]]∧(∀k,k≠sb→k≠o→m.heap[k]? =w.heap[k]?)∧dU w m∧m.heap.size=w.heap.size:=by
 have I:=h.size;obtain ⟨J,r⟩:∃i,C[5]? =some i:=⟨_,Array.getElem?_eq_getElem (by omega)⟩;have F:=(h.cell 5).trans r;have G:=h.frozen 5;have E:=(h.cell 0).trans x;have j:aL sb w (w.setCell ⟨sb,5,none⟩ (.bool true)):=(aL.refl _ _).setCell _;have z:(w.setCell ⟨sb,5,none⟩ (.bool true)).cell? ⟨l,0,none⟩=some (.string (bs c)):=(j.cell q).trans y;have s:=h.set 5 (by decide) (.bool true);have v:=Lib.hid (s.tell (by simp) ([50,53,48,32]++c) (by rw [List.length_append];simp;omega));have d:(⟨#[50,53,48,32]⟩:ByteArray)++bs c=bs ([50,53,48,32]++c):=cE [50,53,48,32] c;have u:=Lib.hid d;have A:=aG c;clear h s d;go_enter_defers Tryz.func144,Tryz.ntmps144
 go_wp2_with fail
 rw [u.out];refine v.out.mono ?_;rintro e t ⟨rfl,p,g⟩;obtain ⟨i,B⟩:∃i,(C.setIfInBounds 5 (.bool true))[8]? =some i:=⟨_,Array.getElem?_eq_getElem (by simp;omega)⟩;have n:aL sb t (t.setCell ⟨sb,8,none⟩ (.pointer none)):=(aL.refl _ _).setCell _;go_wp2_with fail
 refine leaves_cons (f:=194) (args:=#[.pointer (some ⟨sb,0,none⟩)]) (by simp) (by simp [go_sem]) ?_;refine (oa sb i .returning _ ((p.cell 8).trans B) (p.frozen 8)).mono ?_;rintro e u' D ⟨rfl,rfl,rfl⟩;exact ⟨_,results_none rfl _ _ _,rfl,p.set 8 (by decide) _,fun k a b=>(n.2 k a).trans ((g.2 k b).trans (j.2 k a)),(j.3.trans g.3).trans n.3,n.1.trans (g.1.trans j.1)⟩
theorem oV (w:World):Calls Tryz.prog 198 #[.pointer none] w fun e a=>e= .returned (.bool false)∧w=a:=by
 go_enter Tryz.func198,Tryz.ntmps198;go_wp2_with fail
 go_ret;exact ⟨rfl,rfl⟩
theorem pO (b n c:Nat) (a:Option Addr) (w:World) (h:w.cell? ⟨b,1,none⟩=some (.slice a n c)):Calls Tryz.prog 198 #[.pointer (some ⟨b,0,none⟩)] w fun e d=>e= .returned (.bool (decide (0 < n)))∧w=d:=by
 go_enter Tryz.func198,Tryz.ntmps198;go_wp2_with fail
 go_ret;exact ⟨rfl,rfl⟩
theorem yY (w:World):Calls Tryz.prog 100 #[.pointer none] w fun e a=>e= .returned (.bool false)∧w=a:=by
 go_enter Tryz.func100,Tryz.ntmps100;go_wp2_with fail
 go_ret;exact ⟨rfl,rfl⟩
theorem CL (a:Nat) (w:World) (h:w.cell? ⟨a,2,none⟩=some (.pointer none)):Calls Tryz.prog 100 #[.pointer (some ⟨a,0,none⟩)] w fun e b=>e= .returned (.bool false)∧w=b:=by
 go_enter Tryz.func100,Tryz.ntmps100;go_wp2_with fail
 go_ret;exact ⟨rfl,rfl⟩
theorem AL (a b:Nat) (w:World) (h:w.cell? ⟨a,2,none⟩=some (.pointer (some ⟨b,0,none⟩))):Calls Tryz.prog 100 #[.pointer (some ⟨a,0,none⟩)] w fun e c=>e= .returned (.bool true)∧w=c:=by
 go_enter Tryz.func100,Tryz.ntmps100;go_wp2_with fail
 go_ret;exact ⟨rfl,rfl⟩
theorem bT.below {w e:World} {sb a:Nat} {C:Array Value} {d:List (List UInt8)} (h:bT w sb a C d) (b:Below w.heap.size w e):bT e sb a C d:=by
 obtain ⟨s,r,c⟩:=h.chan;exact ⟨(b.block sb (Array.getElem?_eq_some_iff.1 h.blk).1).trans h.blk,h.size,h.told,s,r,(b.block a (Array.getElem?_eq_some_iff.1 c).1).trans c⟩
theorem bT.same {w e:World} {sb a b:Nat} {C:Array Value} {d:List (List UInt8)} (h:bT w sb a C d) (c:aL b w e) (f:sb≠b) (g:a≠b):bT e sb a C d:=by
 obtain ⟨s,r,i⟩:=h.chan;exact ⟨(c.2 sb f).trans h.blk,h.size,h.told,s,r,(c.2 a g).trans i⟩
theorem wz (sb p a:Nat) (C:Array Value) (F G K:Value) (w:World) (h:bT w sb p C []) (P:C[8]? =some (.pointer (some ⟨a,0,none⟩))) (j:w.heap[a]? =some (.cells #[F,G,K] 216 (0,0))):
  Calls Tryz.prog 149 #[.pointer (some ⟨sb,0,none⟩)] w fun e m=>e= .returned (.tuple #[])∧bT m sb p C [[51,53,52,32,103,111,13,10]]∧m.heap[a]? =some (.cells #[F,G,.pointer (some ⟨w.heap.size,0,none⟩)] 216 (0,0))∧m.heap[w.heap.size]? =some (.cells #[.slice none 0 0,.bool false,.bool false] 253 (0,0))∧(∀k,k < w.heap.size→k≠a→k≠p→m.heap[k]? =w.heap[k]?)∧dU w m∧w.heap.size≤m.heap.size:=by
 have S:=(h.cell 8).trans P;have D:a < w.heap.size:=(Array.getElem?_eq_some_iff.1 j).1;have R:∀o:Obj,(w.alloc o).cell? ⟨a,2,none⟩=some K:=fun o=>by rw [Lib.cell_of_heap ((((Below.refl w.heap.size w).alloc (Nat.le_refl _) o).block a D).trans j)];rfl
 have g2:∀o:Obj,(w.alloc o).frozen? ⟨a,2,none⟩=false:=fun o=>Lib.frozen_of_heap ((((Below.refl w.heap.size w).alloc (Nat.le_refl _) o).block a D).trans j) 2;have E:sb≠a:=fun e=>by have:=h.blk;rw [e,j] at this;simp at this
 have q:p≠a:=fun e=>by obtain ⟨s,r,u⟩:=h.chan;rw [e,j] at u;simp at u
 have l:aL a w (w.setCell ⟨a,2,none⟩ (.pointer (some ⟨w.heap.size,0,none⟩))):=(aL.refl _ _).setCell _;have B:=heap_setCell_same w a 2 _ _ (.pointer (some ⟨w.heap.size,0,none⟩)) j;obtain ⟨g,i⟩:∃g:World,w.setCell ⟨a,2,none⟩ (.pointer (some ⟨w.heap.size,0,none⟩))=g:=⟨_,rfl⟩;rw [i] at l B;obtain ⟨n,d⟩:∃n:World,g.alloc (.cells #[.slice none 0 0,.bool false,.bool false] 253)=n:=⟨_,rfl⟩;have t:Below g.heap.size g n:=by rw [←d];exact (Below.refl _ _).alloc (Nat.le_refl _) _
 have I:n.heap[w.heap.size]? =some (.cells #[.slice none 0 0,.bool false,.bool false] 253 (0,0)):=by rw [←d,←l.1];exact heap_alloc_new g _
 have J:n.heap[a]? =some (.cells #[F,G,.pointer (some ⟨w.heap.size,0,none⟩)] 216 (0,0)):=(t.block a (by rw [l.1];exact D)).trans B;have H:=(h.same l E q).below t;have L:=Lib.hid (H.tell (by simp) [51,53,52,32,103,111] (by decide));have A:p≠w.heap.size:=by obtain ⟨s,r,u⟩:=h.chan;have:=(Array.getElem?_eq_some_iff.1 u).1;omega
 have f:=Lib.hid l;have b:=Lib.hid t;have v:=Lib.hid J;have z:=Lib.hid I;have x:=Lib.hid i;have y:=Lib.hid d;clear h H B t I i d l J j;go_enter Tryz.func149,Tryz.ntmps149;go_wp2_with fail
 rw [x.out,y.out];refine L.out.mono ?_;rintro e U ⟨rfl,N,c⟩;go_wp2_with fail
 refine bodyPost_end (results_none rfl _ _ _) rfl ?_;have Q:g.heap.size=w.heap.size:=f.out.1;refine ⟨rfl,N,(c.2 a (Ne.symm q)).trans v.out,(c.2 _ (Ne.symm A)).trans z.out,fun k T M O=>(c.2 k O).trans ((b.out.block k (by omega)).trans (f.out.2 k M)),(f.out.3.trans ⟨b.out.1,b.out.2,b.out.3⟩).trans c.3,?_⟩;rw [c.1];have:=b.out.size;omega
section
variable {P:Program}
theorem zY (W:World) (t g e:TypeId) (i:TypeInfo) (f:P.underlying t=some (.slice e)) (d:P.info? e=some i) (b:Nat) (a:Option Addr) (c:Nat):
  (Builtin.append_ #[t,t] g #[.slice (some ⟨b,0,none⟩) 0 0,.slice a 0 c]).run P W= .ok (.slice (some ⟨b,0,none⟩) 0 0) W:=by
 cases a <;> simp [Builtin.append_,run_underlying f,sizeOf,typeInfo,d,Builtin.lenOf,Builtin.firstCells,loadCells,loadCellsFrom,storeCells]
theorem kr (W:World) (t E e:TypeId) (z:Value) (f d:Nat) (J:P.underlying t=some (.slice e)) (p:(P.info? e).map (fun i=>(i.zero,i.size,i.bytes))=some (some z,f,d)) (D:z.cells.size=f) (C:0 < f) (b:Nat) (G:W.heap[b]? =some (.cells #[] e (0,0)))
  (v:Value) (n:Nat) (o:List Value) (h:bg W v n f o) (L:∀u∈o,u.oneCell'=true) (U:n≤maxLen) (w:n * d≤140737488355328):
  ∃g q m,(Builtin.append_ #[t,t] E #[.slice (some ⟨b,0,none⟩) 0 0,v]).run P W= .ok (.slice (some ⟨g,0,none⟩) n q) m∧m.ownsRow b e f (.slice (some ⟨g,0,none⟩) n q) n o∧W.grownBy m (some b)∧(g=b∨g=W.heap.size):=by
 obtain ⟨i,H,T,R,S⟩:=info_parts p;have F:W.ownsRow b e f (.slice (some ⟨b,0,none⟩) 0 0) 0 []:=⟨by simp,.inr ⟨b,0,#[],rfl,Nat.le_refl _,G,Nat.le_refl _,by simp,by simp,by simp⟩⟩
 obtain ⟨A,⟨rfl,a,k,rfl⟩ | ⟨r,l,k,rfl,N,M⟩⟩:=h
 ·have x:o=[]:=List.length_eq_zero_iff.1 (by simpa using A);subst x;exact ⟨b,0,W,zY W t E e i J H b a k,F,⟨rfl,rfl,rfl,Nat.le_refl _,fun _ _ _=>rfl⟩,.inl rfl⟩
 ·obtain ⟨V,m,Q,B,O,_,c⟩:=run_append_own_at W b t E e i z f d J H T R S D C (.slice (some ⟨b,0,none⟩) 0 0) 0 [] F ⟨r,l,none⟩ n k o A (fun j u I=>by
   have y:j < n * f:=by
    rw [←A];exact (List.getElem?_eq_some_iff.1 I).1
   rw [show (⟨r,l,none⟩:Addr).add j=⟨r,l+j,none⟩ by simp [Addr.add],M j y,I]) L (by omega) (by simpa using w) (by have:=(Array.getElem?_eq_some_iff.1 G).1;omega)
  rw [Nat.zero_add,List.nil_append] at B
  rcases B.2 with ⟨s,_⟩ | ⟨g,q,K,s,_⟩
  ·rw [s] at c
   rcases c with c | c <;> cases c
  ·subst s;refine ⟨g,q,m,Q,B,O,?_⟩
   rcases c with c | c
   ·injection c with c;exact .inl c
   ·injection c with c;exact .inr c
theorem bB {w:World} {c:Array Oper} {b:List Oper} {o:Oper} {a:Act} {Q:Exit→Act→World→Prop} (d:o.guard=none) (s x:Operand) (t:TypeId)
  (g:o.op= .call {callee:= .builtin .append,args:=#[s,x],argTypes:=#[t,t]}) (v u r:Value) (e:World) (j:a.eval s=v) (k:a.eval x=u) (i:(Builtin.append_ #[t,t] o.type #[v,u]).run P w= .ok r e) (h:wpList P c Q b (a.put o.dst r) e):wpList P c Q (o::b) a w:=
 wpList_plain d fun K f=>by
  unfold Oper.wp execOp;simp only [g,resolve,invoke,builtin,Sem.run_bind,Sem.run_pure,Result.andThen_ok,List.map_toArray,List.map_cons,List.map_nil,j,k,i];exact f _ _ h
end
theorem Cq (l:List ByteArray) (v:Value) (w:World) (h:bg w v l.length 1 (dK l)) (H:l.length≤5):
  Calls Tryz.prog 70 #[v] w fun e z=>∃a c,e= .returned (.slice a l.length c)∧z.ownsRow w.heap.size 9 1 (.slice a l.length c) l.length (dK l)∧Below w.heap.size w z:=by
 obtain ⟨a,f,E⟩:=aE h;subst E
 cases a with
 | none=>
  have i:l.length=0:=by
   rcases h.2 with ⟨i,_⟩ | ⟨b,F,q,e,_⟩
   ·exact i
   ·cases e
  have m:l=[]:=List.length_eq_zero_iff.1 i;subst m;clear h;have G:=fun (w:World) (a:Option Addr) (n c o d:Nat)=>Lib.run_eql_slice_nil (P:=Tryz.prog) w 25 _ a n c o d Tryz.underlying25;go_enter Tryz.func70,Tryz.ntmps70;go_wp2_with fail
  go_ret;exact ⟨none,0,rfl,World.ownsRow_nil _ _ _ _,Below.refl _ _⟩
 | some a=>
  have y:(w.alloc (.cells #[] 9)).heap[w.heap.size]? =some (.cells #[] 9 (0,0)):=heap_alloc_new w _;obtain ⟨g,D,p,x,u,s,j⟩:=kr (P:=Tryz.prog) (w.alloc (.cells #[] 9)) 25 25 9 (.string ⟨#[]⟩) 1 16 Tryz.underlying25 uk rfl (by decide) w.heap.size y (.slice (some a) l.length f) l.length (dK l) (h.below ((Below.refl _ _).alloc (Nat.le_refl _) _)) (Ie l) (by unfold maxLen;omega) (by omega);have r:Below w.heap.size w p:=((Below.refl w.heap.size w).alloc (Nat.le_refl _) _).grown s (by simp) (fun k t=>by injection t with t;omega);have C:=Lib.hid x;have B:=Lib.hid u;have A:=Lib.hid r;clear x u r s j y h;have G:=fun (w:World) (a:Option Addr) (n c o d:Nat)=>Lib.run_eql_slice_nil (P:=Tryz.prog) w 25 _ a n c o d Tryz.underlying25;go_enter Tryz.func70,Tryz.ntmps70
  go_wp2_with (first
   | (at_builtin;refine bB rfl _ _ 25 rfl _ _ (.slice (some ⟨g,0,none⟩) l.length D) p rfl rfl C.out ?_)
   | fail)
  go_ret;exact ⟨_,_,rfl,B.out,A.out⟩
theorem Cr (l:List (Int×Int)) (v:Value) (w:World) (h:bg w v l.length 2 (ik l)) (H:l.length≤5):
  Calls Tryz.prog 71 #[v] w fun e z=>∃a c,e= .returned (.slice a l.length c)∧z.ownsRow w.heap.size 77 2 (.slice a l.length c) l.length (ik l)∧Below w.heap.size w z:=by
 obtain ⟨a,f,E⟩:=aE h;subst E
 cases a with
 | none=>
  have i:l.length=0:=by
   rcases h.2 with ⟨i,_⟩ | ⟨b,F,q,e,_⟩
   ·exact i
   ·cases e
  have m:l=[]:=List.length_eq_zero_iff.1 i;subst m;clear h;have G:=fun (w:World) (a:Option Addr) (n c o d:Nat)=>Lib.run_eql_slice_nil (P:=Tryz.prog) w 26 _ a n c o d Tryz.underlying26;go_enter Tryz.func71,Tryz.ntmps71;go_wp2_with fail
  go_ret;exact ⟨none,0,rfl,World.ownsRow_nil _ _ _ _,Below.refl _ _⟩
 | some a=>
  have y:(w.alloc (.cells #[] 77)).heap[w.heap.size]? =some (.cells #[] 77 (0,0)):=heap_alloc_new w _;obtain ⟨g,D,p,x,u,s,j⟩:=kr (P:=Tryz.prog) (w.alloc (.cells #[] 77)) 26 26 77 (.agg #[.int .i64 0,.int .i64 0]) 2 16 Tryz.underlying26 G3 rfl (by decide) w.heap.size y (.slice (some a) l.length f) l.length (ik l) (h.below ((Below.refl _ _).alloc (Nat.le_refl _) _)) (Ib l) (by unfold maxLen;omega) (by omega);have r:Below w.heap.size w p:=((Below.refl w.heap.size w).alloc (Nat.le_refl _) _).grown s (by simp) (fun k t=>by injection t with t;omega);have C:=Lib.hid x;have B:=Lib.hid u;have A:=Lib.hid r;clear x u r s j y h;have G:=fun (w:World) (a:Option Addr) (n c o d:Nat)=>Lib.run_eql_slice_nil (P:=Tryz.prog) w 26 _ a n c o d Tryz.underlying26;go_enter Tryz.func71,Tryz.ntmps71
  go_wp2_with (first
   | (at_builtin;refine bB rfl _ _ 26 rfl _ _ (.slice (some ⟨g,0,none⟩) l.length D) p rfl rfl C.out ?_)
   | fail)
  go_ret;exact ⟨_,_,rfl,B.out,A.out⟩
theorem Ct (l:List (ByteArray×ByteArray)) (v:Value) (w:World) (h:bg w v l.length 2 (cH l)) (H:l.length≤5):
  Calls Tryz.prog 72 #[v] w fun e z=>∃a c,e= .returned (.slice a l.length c)∧z.ownsRow w.heap.size 79 2 (.slice a l.length c) l.length (cH l)∧Below w.heap.size w z:=by
 obtain ⟨a,f,E⟩:=aE h;subst E
 cases a with
 | none=>
  have i:l.length=0:=by
   rcases h.2 with ⟨i,_⟩ | ⟨b,F,q,e,_⟩
   ·exact i
   ·cases e
  have m:l=[]:=List.length_eq_zero_iff.1 i;subst m;clear h;have G:=fun (w:World) (a:Option Addr) (n c o d:Nat)=>Lib.run_eql_slice_nil (P:=Tryz.prog) w 27 _ a n c o d Tryz.underlying27;go_enter Tryz.func72,Tryz.ntmps72;go_wp2_with fail
  go_ret;exact ⟨none,0,rfl,World.ownsRow_nil _ _ _ _,Below.refl _ _⟩
 | some a=>
  have y:(w.alloc (.cells #[] 79)).heap[w.heap.size]? =some (.cells #[] 79 (0,0)):=heap_alloc_new w _;obtain ⟨g,D,p,x,u,s,j⟩:=kr (P:=Tryz.prog) (w.alloc (.cells #[] 79)) 27 27 79 (.agg #[.string ⟨#[]⟩,.string ⟨#[]⟩]) 2 32 Tryz.underlying27 E9 rfl (by decide) w.heap.size y (.slice (some a) l.length f) l.length (cH l) (h.below ((Below.refl _ _).alloc (Nat.le_refl _) _)) (FA l) (by unfold maxLen;omega) (by omega);have r:Below w.heap.size w p:=((Below.refl w.heap.size w).alloc (Nat.le_refl _) _).grown s (by simp) (fun k t=>by injection t with t;omega);have C:=Lib.hid x;have B:=Lib.hid u;have A:=Lib.hid r;clear x u r s j y h;have G:=fun (w:World) (a:Option Addr) (n c o d:Nat)=>Lib.run_eql_slice_nil (P:=Tryz.prog) w 27 _ a n c o d Tryz.underlying27;go_enter Tryz.func72,Tryz.ntmps72
  go_wp2_with (first
   | (at_builtin;refine bB rfl _ _ 27 rfl _ _ (.slice (some ⟨g,0,none⟩) l.length D) p rfl rfl C.out ?_)
   | fail)
  go_ret;exact ⟨_,_,rfl,B.out,A.out⟩
theorem Cu (l:List Int) (v:Value) (w:World) (h:bg w v l.length 1 (ib l)) (H:l.length≤5):
  Calls Tryz.prog 73 #[v] w fun e z=>∃a c,e= .returned (.slice a l.length c)∧z.ownsRow w.heap.size 3 1 (.slice a l.length c) l.length (ib l)∧Below w.heap.size w z:=by
 obtain ⟨a,f,E⟩:=aE h;subst E
 cases a with
 | none=>
  have i:l.length=0:=by
   rcases h.2 with ⟨i,_⟩ | ⟨b,F,q,e,_⟩
   ·exact i
   ·cases e
  have m:l=[]:=List.length_eq_zero_iff.1 i;subst m;clear h;have G:=fun (w:World) (a:Option Addr) (n c o d:Nat)=>Lib.run_eql_slice_nil (P:=Tryz.prog) w 28 _ a n c o d Tryz.underlying28;go_enter Tryz.func73,Tryz.ntmps73;go_wp2_with fail
  go_ret;exact ⟨none,0,rfl,World.ownsRow_nil _ _ _ _,Below.refl _ _⟩
 | some a=>
  have y:(w.alloc (.cells #[] 3)).heap[w.heap.size]? =some (.cells #[] 3 (0,0)):=heap_alloc_new w _;obtain ⟨g,D,p,x,u,s,j⟩:=kr (P:=Tryz.prog) (w.alloc (.cells #[] 3)) 28 28 3 (.int .i64 0) 1 8 Tryz.underlying28 GZ rfl (by decide) w.heap.size y (.slice (some a) l.length f) l.length (ib l) (h.below ((Below.refl _ _).alloc (Nat.le_refl _) _)) (Ia l) (by unfold maxLen;omega) (by omega);have r:Below w.heap.size w p:=((Below.refl w.heap.size w).alloc (Nat.le_refl _) _).grown s (by simp) (fun k t=>by injection t with t;omega);have C:=Lib.hid x;have B:=Lib.hid u;have A:=Lib.hid r;clear x u r s j y h;have G:=fun (w:World) (a:Option Addr) (n c o d:Nat)=>Lib.run_eql_slice_nil (P:=Tryz.prog) w 28 _ a n c o d Tryz.underlying28;go_enter Tryz.func73,Tryz.ntmps73
  go_wp2_with (first
   | (at_builtin;refine bB rfl _ _ 28 rfl _ _ (.slice (some ⟨g,0,none⟩) l.length D) p rfl rfl C.out ?_)
   | fail)
  go_ret;exact ⟨_,_,rfl,B.out,A.out⟩
theorem JF {w:World} {k:Nat} {o:Obj} (h:w.heap[k]? =some o):k < w.heap.size:=(Array.getElem?_eq_some_iff.1 h).1
theorem ft {w a:World} (b:Below w.heap.size w a) {k:Nat} {o:Obj} (h:w.heap[k]? =some o):a.heap[k]? =some o:=(b.block k (JF h)).trans h
theorem lK {p:Nat} {w b:World} (c:aL p w b) {k:Nat} {o:Obj} (h:w.heap[k]? =some o) (a:k≠p):b.heap[k]? =some o:=(c.2 k a).trans h
theorem yO {w j:World} {a i n:Nat} {e:TypeId} {v:Value} {k:List Value} (h:w.ownsRow a e i v n k) (p:∀g b,w.heap[g]? =some (.cells b e (0,0))→a≤g→j.heap[g]? =some (.cells b e (0,0))):j.ownsRow a e i v n k:=by
 obtain ⟨o,d⟩:=h;refine ⟨o,?_⟩
 rcases d with d | ⟨g,c,b,l,f,m,r⟩
 ·exact .inl d
 ·exact .inr ⟨g,c,b,l,f,p g b m f,r⟩
theorem sU {w:World} {a f i n:Nat} {e:TypeId} {v:Value} {j:List Value} (h:w.ownsRow a e i v n j) (o:f≤a):w.ownsRow f e i v n j:=by
 obtain ⟨m,d⟩:=h;refine ⟨m,?_⟩
 rcases d with d | ⟨g,b,c,k,l,r⟩
 ·exact .inl d
 ·exact .inr ⟨g,b,c,k,Nat.le_trans o l,r⟩
theorem JS {w:World} {a n f:Nat} {e:TypeId} {v:Value} {i:List Value} (h:w.ownsRow a e f v n i):bg w v n f i:=by
 refine ⟨h.1,?_⟩
 rcases h.2 with ⟨b,m⟩ | ⟨g,k,l,b,_,o,c,_,_,d⟩
 ·exact .inl ⟨m,none,0,b⟩
 ·refine .inr ⟨g,0,k,b,c,fun j p=>?_⟩;rw [Nat.zero_add,Lib.cell_of_heap o,←Array.getElem?_toList,←List.getElem?_take_of_lt p,d]
structure Ge (c:bX):Prop where
 host:c.host.size≤255
 doms:c.doms.length≤5
 domz:∀s∈c.doms,s.size≤255
 nets:c.nets.length≤5
 users:c.users.length≤5
 userz:∀x∈c.users,x.1.size≤255∧x.2.size≤255
 waits:c.waits.length≤5
theorem uc {s:ByteArray} (h:jj s.data.toList=true):s.size≤255:=by
 unfold jj at h;simp only [Bool.and_eq_true,decide_eq_true_eq,Array.length_toList] at h;have:s.size=s.data.size:=rfl;omega
theorem rZ {s:ByteArray} (h:mF s.data.toList=true):s.size≤255:=by
 unfold mF cF at h;simp only [Bool.and_eq_true,decide_eq_true_eq,Array.length_toList] at h;have:s.size=s.data.size:=rfl;omega
theorem kg {c:bX} (h:ij c=true):Ge c:=by
 unfold ij oq nr kG kI at h;simp only [Bool.and_eq_true,decide_eq_true_eq,List.all_eq_true] at h;obtain ⟨⟨⟨⟨⟨⟨⟨⟨d,e,f⟩,g,_⟩,i,j⟩,_⟩,_⟩,a,_⟩,_⟩,_⟩:=h;refine ⟨uc d,e,fun s l=>uc (f s l),g,i,fun x m=>?_,?_⟩
 ·obtain ⟨k,b,rfl⟩:=List.getElem_of_mem m;have:=j k (List.mem_range.2 b);unfold mq at this;simp only [Bool.and_eq_true,List.getD_eq_getElem?_getD,List.getElem?_eq_getElem b,Option.getD_some] at this;exact ⟨rZ this.1.1,rZ this.1.2⟩
 ·unfold cF at a;simp only [Bool.and_eq_true,decide_eq_true_eq] at a;omega
theorem kD {W:World} {a n l:Nat} {e:TypeId} {v:Value} {m:List Value} (h:W.ownsRow a e l v n m) {k:Nat} (b:v.ownBlock=some k):a≤k∧k < W.heap.size:=by
 rcases h.2 with ⟨c,_⟩ | ⟨g,d,f,c,i,j,_⟩
 ·rw [c] at b;cases b
 ·rw [c] at b;injection b with b;subst b;exact ⟨i,(Array.getElem?_eq_some_iff.1 j).1⟩
theorem re {W:World} {g a:Nat} {A:Array Value} {t:TypeId} {v:Value} (h:W.heap[g]? =some (.cells A t (0,0))) (d:A[a]? =some v):Below W.heap.size W (W.setCell ⟨g,a,none⟩ v):=by
 have b:aL g W (W.setCell ⟨g,a,none⟩ v):=(aL.refl _ _).setCell _;have f:=heap_setCell_same W g a _ _ v h
 have e:A.setIfInBounds a v=A:=by
  apply Array.ext_getElem?;intro i;rw [Array.getElem?_setIfInBounds]
  split
  ·rename_i j
   subst j;rw [d];simp [(Array.getElem?_eq_some_iff.1 d).1]
  ·rfl
 refine ⟨b.3.1,b.3.2.1,b.3.2.2,by rw [b.1];exact Nat.le_refl _,fun k _=>?_⟩
 by_cases c:k=g
 ·subst c;rw [h,f,e]
 ·exact b.2 k c
structure zM (w W:World) (c:bX) (D N U V:Value):Prop where
 box:W.heap[w.heap.size]? =some (.cells #[.string c.host,D,N,U,.int .i64 c.most,.int .i64 c.size,V,.int .i64 c.life,.int .i64 c.room] 30 (0,0))
 out:W.heap[w.heap.size+1]? =some (.cells #[.string ⟨#[]⟩,.slice none 0 0,.slice none 0 0,.slice none 0 0,.int .i64 0,.int .i64 0,.slice none 0 0,.int .i64 0,.int .i64 0] 30 (0,0))
 below:Below w.heap.size w W
theorem zM.keep {w W b:World} {c:bX} {D N U V:Value} (h:zM w W c D N U V) (a:Below W.heap.size W b):zM w b c D N U V:=
 ⟨ft a h.box,ft a h.out,h.below.trans (a.mono h.below.size)⟩
theorem zM.set {w W:World} {c:bX} {D N U V D' N' U' V':Value} (h:zM w W c D N U V) (j:Nat) (v:Value) (e:(#[.string c.host,D,N,U,.int .i64 c.most,.int .i64 c.size,V,.int .i64 c.life,.int .i64 c.room]:Array Value).setIfInBounds j v=#[.string c.host,D',N',U',.int .i64 c.most,.int .i64 c.size,V',.int .i64 c.life,.int .i64 c.room]):zM w (W.setCell ⟨w.heap.size,j,none⟩ v) c D' N' U' V':=by
 have a:aL w.heap.size W (W.setCell ⟨w.heap.size,j,none⟩ v):=(aL.refl _ _).setCell _;refine ⟨?_,lK a h.out (by omega),h.below.trans (a.below (Nat.le_refl _))⟩;have b:=heap_setCell_same W w.heap.size j _ _ v h.box;rw [e] at b;exact b
theorem zM.big {w W:World} {c:bX} {D N U V:Value} (h:zM w W c D N U V):w.heap.size+2≤W.heap.size:=JF h.out
theorem zM.cell {w W:World} {c:bX} {D N U V:Value} (h:zM w W c D N U V) (j:Nat):W.cell? ⟨w.heap.size,j,none⟩=(#[.string c.host,D,N,U,.int .i64 c.most,.int .i64 c.size,V,.int .i64 c.life,.int .i64 c.room]:Array Value)[j]? :=by rw [Lib.cell_of_heap h.box]
theorem zM.frozen {w W:World} {c:bX} {D N U V:Value} (h:zM w W c D N U V) (j:Nat):W.frozen? ⟨w.heap.size,j,none⟩=false:=Lib.frozen_of_heap h.box j
theorem jN {w W:World} {n a j:Nat} {e:TypeId} {v x:Value} {b:List Value} (h:W.ownsRow (w.heap.size+2) e a v n b):(W.setCell ⟨w.heap.size,j,none⟩ x).ownsRow (w.heap.size+2) e a v n b:=
 yO h fun _ _ e c=>lK ((aL.refl _ _).setCell _) e (by omega)
theorem dV {W b:World} {a n c:Nat} {e:TypeId} {v:Value} {d:List Value} (h:W.ownsRow a e c v n d) (f:Below W.heap.size W b):b.ownsRow a e c v n d:=yO h fun _ _ e _=>ft f e
theorem yN {w W a:World} {n b:Nat} {e:TypeId} {v:Value} {c:List Value} (h:W.ownsRow (w.heap.size+2) e b v n c) (d:aL (w.heap.size+1) W a):bg a v n b c:=
 JS (yO h fun _ _ e f=>lK d e (by omega))
theorem gU {W:World} {b j:Nat} {A A':Array Value} {t:TypeId} {v:Value} (h:W.heap[b]? =some (.cells A t (0,0))) (e:A.setIfInBounds j v=A'):(W.setCell ⟨b,j,none⟩ v).heap[b]? =some (.cells A' t (0,0)):=by
 rw [←e];exact heap_setCell_same W b j _ _ v h
theorem JR {w W a:World} {c:bX} {D N U V:Value} (h:zM w W c D N U V)
  (b:(((((((((W.setCell ⟨w.heap.size+1,0,none⟩ (.string c.host)).setCell ⟨w.heap.size+1,1,none⟩ D).setCell ⟨w.heap.size+1,2,none⟩ N).setCell ⟨w.heap.size+1,3,none⟩ U).setCell ⟨w.heap.size+1,4,none⟩ (.int .i64 c.most)).setCell ⟨w.heap.size+1,5,none⟩ (.int .i64 c.size)).setCell ⟨w.heap.size+1,6,none⟩ V).setCell ⟨w.heap.size+1,7,none⟩ (.int .i64 c.life)).setCell ⟨w.heap.size+1,8,none⟩ (.int .i64 c.room))=a):
  (∀j:Nat,a.cell? ⟨w.heap.size+1,j,none⟩=(#[.string c.host,D,N,U,.int .i64 c.most,.int .i64 c.size,V,.int .i64 c.life,.int .i64 c.room]:Array Value)[j]?)∧aL (w.heap.size+1) W a:=by
 have d:aL (w.heap.size+1) W a:=by rw [←b];exact (((((((((aL.refl _ _).setCell _).setCell _).setCell _).setCell _).setCell _).setCell _).setCell _).setCell _).setCell _
 refine ⟨fun j=>?_,d⟩
 have e:a.heap[w.heap.size+1]? =some (.cells #[.string c.host,D,N,U,.int .i64 c.most,.int .i64 c.size,V,.int .i64 c.life,.int .i64 c.room] 30 (0,0)):=by
  rw [←b];have f:=gU (j:=0) (v:= .string c.host) h.out (A':=#[.string c.host,.slice none 0 0,.slice none 0 0,.slice none 0 0,.int .i64 0,.int .i64 0,.slice none 0 0,.int .i64 0,.int .i64 0]) rfl;have g:=gU (j:=1) (v:=D) f (A':=#[.string c.host,D,.slice none 0 0,.slice none 0 0,.int .i64 0,.int .i64 0,.slice none 0 0,.int .i64 0,.int .i64 0]) rfl;have i:=gU (j:=2) (v:=N) g (A':=#[.string c.host,D,N,.slice none 0 0,.int .i64 0,.int .i64 0,.slice none 0 0,.int .i64 0,.int .i64 0]) rfl;have k:=gU (j:=3) (v:=U) i (A':=#[.string c.host,D,N,U,.int .i64 0,.int .i64 0,.slice none 0 0,.int .i64 0,.int .i64 0]) rfl;have l:=gU (j:=4) (v:= .int .i64 c.most) k (A':=#[.string c.host,D,N,U,.int .i64 c.most,.int .i64 0,.slice none 0 0,.int .i64 0,.int .i64 0]) rfl;have m:=gU (j:=5) (v:= .int .i64 c.size) l (A':=#[.string c.host,D,N,U,.int .i64 c.most,.int .i64 c.size,.slice none 0 0,.int .i64 0,.int .i64 0]) rfl;have n:=gU (j:=6) (v:=V) m (A':=#[.string c.host,D,N,U,.int .i64 c.most,.int .i64 c.size,V,.int .i64 0,.int .i64 0]) rfl;have o:=gU (j:=7) (v:= .int .i64 c.life) n (A':=#[.string c.host,D,N,U,.int .i64 c.most,.int .i64 c.size,V,.int .i64 c.life,.int .i64 0]) rfl;exact gU (j:=8) (v:= .int .i64 c.room) o (A':=#[.string c.host,D,N,U,.int .i64 c.most,.int .i64 c.size,V,.int .i64 c.life,.int .i64 c.room]) rfl
 rw [Lib.cell_of_heap e]
theorem Gw (c:bX) (vD vN vU vW:Value) (w:World) (h:jZ w c vD vN vU vW) (hs:Ge c):
  Calls Tryz.prog 43 #[.agg #[.string c.host,vD,vN,vU,.int .i64 c.most,.int .i64 c.size,vW,.int .i64 c.life,.int .i64 c.room]] w fun e E=>∃uD uN uU uW,e= .returned (.agg #[.string c.host,uD,uN,uU,.int .i64 c.most,.int .i64 c.size,uW,.int .i64 c.life,.int .i64 c.room])∧jZ E c uD uN uU uW∧Below w.heap.size w E∧∀k,(uD.ownBlock=some k∨uN.ownBlock=some k∨uU.ownBlock=some k∨uW.ownBlock=some k)→w.heap.size≤k∧k < E.heap.size:=by
 obtain ⟨aD,cD,n⟩:=aE h.1;obtain ⟨V,X,r⟩:=aE h.2.1;obtain ⟨R,T,o⟩:=aE h.2.2.1;obtain ⟨G,H,I⟩:=aE h.2.2.2;subst n r o I;obtain ⟨W0,b5⟩:∃W0:World,(w.alloc (.cells #[.string c.host,.slice aD c.doms.length cD,.slice V c.nets.length X,.slice R c.users.length T,.int .i64 c.most,.int .i64 c.size,.slice G c.waits.length H,.int .i64 c.life,.int .i64 c.room] 30)).alloc (.cells #[.string ⟨#[]⟩,.slice none 0 0,.slice none 0 0,.slice none 0 0,.int .i64 0,.int .i64 0,.slice none 0 0,.int .i64 0,.int .i64 0] 30)=W0:=⟨_,rfl⟩
 have C0:zM w W0 c (.slice aD c.doms.length cD) (.slice V c.nets.length X) (.slice R c.users.length T) (.slice G c.waits.length H):=by
  rw [←b5];refine ⟨ft ((Below.refl _ _).alloc (Nat.le_refl _) _) (heap_alloc_new w _),?_,((Below.refl _ _).alloc (Nat.le_refl _) _).alloc (by simp) _⟩;have:=heap_alloc_new (w.alloc (.cells #[.string c.host,.slice aD c.doms.length cD,.slice V c.nets.length X,.slice R c.users.length T,.int .i64 c.most,.int .i64 c.size,.slice G c.waits.length H,.int .i64 c.life,.int .i64 c.room] 30)) (.cells #[.string ⟨#[]⟩,.slice none 0 0,.slice none 0 0,.slice none 0 0,.int .i64 0,.int .i64 0,.slice none 0 0,.int .i64 0,.int .i64 0] 30);simpa using this
 have HH:=Lib.hid h;have U:=Lib.hid hs;have c1:=Lib.hid C0;have h1:=Lib.hid b5;have y0:W0.cell? ⟨w.heap.size,0,none⟩=some (.string c.host):=C0.cell 0;clear h hs C0 b5;go_enter Tryz.func43,Tryz.ntmps43;go_wp2_with fail
 rw [h1.out];go_wp2_with fail
 refine (iw c.host W0 (by have:=U.out.host;omega)).mono ?_;rintro e w1 ⟨rfl,d4⟩;have C1:=c1.out.keep d4;have y1:w1.cell? ⟨w.heap.size,1,none⟩=some (.slice aD c.doms.length cD):=C1.cell 1;have z0:w1.cell? ⟨w.heap.size,0,none⟩=some (.string c.host):=C1.cell 0;have f0:=C1.frozen 0;have L:=Lib.hid (C1.set (D':= .slice aD c.doms.length cD) (N':= .slice V c.nets.length X) (U':= .slice R c.users.length T) (V':= .slice G c.waits.length H) 0 (.string c.host) rfl);clear d4 C1 y0 c1;go_wp2_with fail
 obtain ⟨W2,c7⟩:∃W2:World,w1.setCell ⟨w.heap.size,0,none⟩ (.string c.host)=W2:=⟨_,rfl⟩;rw [c7] at L ⊢;clear c7 y1 z0 f0;refine (Cq c.doms _ W2 (HH.out.1.below L.out.below) U.out.doms).mono ?_;rintro e w3 ⟨q,n,rfl,d8,d5⟩;have C3:=L.out.keep d5;have y1:w3.cell? ⟨w.heap.size,1,none⟩=some (.slice aD c.doms.length cD):=C3.cell 1;have f1:=C3.frozen 1;have a2:=Lib.hid (C3.set (D':= .slice q c.doms.length n) (N':= .slice V c.nets.length X) (U':= .slice R c.users.length T) (V':= .slice G c.waits.length H) 1 (.slice q c.doms.length n) rfl);have a4:=Lib.hid (jN (w:=w) (j:=1) (x:= .slice q c.doms.length n) (sU d8 L.out.big));clear d5 C3 d8 L;go_wp2_with fail
 obtain ⟨W4,c8⟩:∃W4:World,w3.setCell ⟨w.heap.size,1,none⟩ (.slice q c.doms.length n)=W4:=⟨_,rfl⟩;rw [c8] at a2 a4 ⊢;clear c8 y1 f1;go_loopw [3,4,18] (fun _ _ i E=>∃k:Nat,k≤c.doms.length∧i= .int .i64 k∧Hid (zM w E c (.slice q c.doms.length n) (.slice V c.nets.length X) (.slice R c.users.length T) (.slice G c.waits.length H))∧Hid (E.ownsRow (w.heap.size+2) 9 1 (.slice q c.doms.length n) c.doms.length (dK c.doms))) (fun _ _ i _=>c.doms.length - (intOf i).toNat)
 case atStart=>exact ⟨0,Nat.zero_le _,rfl,a2,a4⟩
 case round=>
  clear a2 a4;obtain ⟨k,hk,rfl,p,P⟩:=hrel;have h6:c.doms.length≤5:=U.out.doms
  by_cases C:k < c.doms.length
  ·have d7:(k:Int) < (c.doms.length:Int):=by omega
   obtain ⟨g,rfl,b,J,y⟩:∃g,q=some ⟨g,0,none⟩∧∃b:Array Value,wr.heap[g]? =some (.cells b 9 (0,0))∧b[k]? =some (.string c.doms[k]):=by
    rcases P.out.2 with ⟨_,h0⟩ | ⟨g,cp,b,e,_,J,_,_,_,a1⟩
    ·omega
    ·injection e with e1 _ _;refine ⟨g,e1,b,J,?_⟩;rw [←Array.getElem?_toList,←List.getElem?_take_of_lt (show k < c.doms.length * 1 by omega),a1];simp [dK,C]
   have D:=U.out.domz c.doms[k] (List.getElem_mem C);obtain ⟨t,et⟩:∃t,c.doms[k]=t:=⟨_,rfl⟩;rw [et] at y D;clear et;have d0:wr.cell? ⟨g,k,none⟩=some (.string t):=by rw [Lib.cell_of_heap J];exact y
   have y1:wr.cell? ⟨w.heap.size,1,none⟩=some (.slice (some ⟨g,0,none⟩) c.doms.length n):=p.out.cell 1;have g4:=Lib.hid (iw t wr.drew (by omega));have c3:=Lib.hid y;have HG:Hid (wr.drew.heap[g]? =some (.cells b 9 (0,0))):=Lib.hid J;have z:Hid (zM w wr.drew c (.slice (some ⟨g,0,none⟩) c.doms.length n) (.slice V c.nets.length X) (.slice R c.users.length T) (.slice G c.waits.length H)):=Lib.hid (p.out.keep ((Below.refl _ _).drew));have a7:Hid (wr.drew.ownsRow (w.heap.size+2) 9 1 (.slice (some ⟨g,0,none⟩) c.doms.length n) c.doms.length (dK c.doms)):=Lib.hid (dV P.out ((Below.refl _ _).drew));have i1:wr.drew.cell? ⟨w.heap.size,1,none⟩=some (.slice (some ⟨g,0,none⟩) c.doms.length n):=z.out.cell 1;clear y J p P D;go_wp2_with fail
   go_region_law (first
    | (go_simp;go_at_call 69;refine g4.out.mono ?_;rintro e d ⟨rfl,a⟩;have f:=z.out.keep a;have O9:=dV a7.out a;have g9:=ft a HG.out;have d9:d.cell? ⟨g,k,none⟩=some (.string t):=(by rw [Lib.cell_of_heap g9];exact c3.out);have f9:=Lib.frozen_of_heap g9 k;have i2:d.cell? ⟨w.heap.size,1,none⟩=some (.slice (some ⟨g,0,none⟩) c.doms.length n):=f.cell 1;have c2:=Lib.hid f;have g6:=Lib.hid O9;have g5:=Lib.hid g9;clear f O9 g9 a;dsimp only))
   all_goals
    go_wp2_with fail
    have f7:=re g5.out c3.out;exact ⟨⟨k+1,by omega,by go_num,Lib.hid (c2.out.keep f7),Lib.hid (dV g6.out f7)⟩,by simp [intOf];omega⟩
  ·have b8:k=c.doms.length:=by omega
   subst b8;have y2:wr.cell? ⟨w.heap.size,2,none⟩=some (.slice V c.nets.length X):=p.out.cell 2;go_wp2_with fail
   refine (Cr c.nets _ wr (HH.out.2.1.below p.out.below) U.out.nets).mono ?_;rintro e w5 ⟨B,r,rfl,e9,b7⟩;have C5:=p.out.keep b7;have y2:w5.cell? ⟨w.heap.size,2,none⟩=some (.slice V c.nets.length X):=C5.cell 2;have y3:w5.cell? ⟨w.heap.size,3,none⟩=some (.slice R c.users.length T):=C5.cell 3;have f2:=C5.frozen 2;have M:=Lib.hid (C5.set (D':= .slice q c.doms.length n) (N':= .slice B c.nets.length r) (U':= .slice R c.users.length T) (V':= .slice G c.waits.length H) 2 (.slice B c.nets.length r) rfl);have a5:=Lib.hid (jN (w:=w) (j:=2) (x:= .slice B c.nets.length r) (dV P.out b7));have a9:=Lib.hid (jN (w:=w) (j:=2) (x:= .slice B c.nets.length r) (sU e9 p.out.big));clear b7 C5 e9 p P;go_wp2_with fail
   obtain ⟨W6,c9⟩:∃W6:World,w5.setCell ⟨w.heap.size,2,none⟩ (.slice B c.nets.length r)=W6:=⟨_,rfl⟩;rw [c9] at M a5 a9 ⊢;clear c9 y2 y3 f2;refine (Ct c.users _ W6 (HH.out.2.2.1.below M.out.below) U.out.users).mono ?_;rintro e w7 ⟨u,o,rfl,f4,a0⟩;have C7:=M.out.keep a0;have y3:w7.cell? ⟨w.heap.size,3,none⟩=some (.slice R c.users.length T):=C7.cell 3;have f3:=C7.frozen 3;have a3:=Lib.hid (C7.set (D':= .slice q c.doms.length n) (N':= .slice B c.nets.length r) (U':= .slice u c.users.length o) (V':= .slice G c.waits.length H) 3 (.slice u c.users.length o) rfl);have a6:=Lib.hid (jN (w:=w) (j:=3) (x:= .slice u c.users.length o) (dV a5.out a0));have b0:=Lib.hid (jN (w:=w) (j:=3) (x:= .slice u c.users.length o) (dV a9.out a0));have b2:=Lib.hid (jN (w:=w) (j:=3) (x:= .slice u c.users.length o) (sU f4 M.out.big));clear a0 C7 f4 M a5 a9;go_wp2_with fail
   obtain ⟨W8,d2⟩:∃W8:World,w7.setCell ⟨w.heap.size,3,none⟩ (.slice u c.users.length o)=W8:=⟨_,rfl⟩;rw [d2] at a3 a6 b0 b2 ⊢;clear d2 y3 f3;go_loopw [5,6,41] (fun _ _ i E=>∃k:Nat,k≤c.users.length∧i= .int .i64 k∧Hid (zM w E c (.slice q c.doms.length n) (.slice B c.nets.length r) (.slice u c.users.length o) (.slice G c.waits.length H))∧Hid (E.ownsRow (w.heap.size+2) 9 1 (.slice q c.doms.length n) c.doms.length (dK c.doms))∧Hid (E.ownsRow (w.heap.size+2) 77 2 (.slice B c.nets.length r) c.nets.length (ik c.nets))∧Hid (E.ownsRow (w.heap.size+2) 79 2 (.slice u c.users.length o) c.users.length (cH c.users))) (fun _ _ i _=>c.users.length - (intOf i).toNat)
   case atStart=>exact ⟨0,Nat.zero_le _,rfl,a3,a6,b0,b2⟩
   case round=>
    clear a3 a6 b0 b2;obtain ⟨k,hk,rfl,p,P,HP,HQ⟩:=hrel;have h7:c.users.length≤5:=U.out.users
    by_cases C:k < c.users.length
    ·have d7:(k:Int) < (c.users.length:Int):=by omega
     obtain ⟨g,rfl,b,J,l,m⟩:∃g,u=some ⟨g,0,none⟩∧∃b:Array Value,wr.heap[g]? =some (.cells b 79 (0,0))∧b[k * 2]? =some (.string c.users[k].1)∧b[k * 2+1]? =some (.string c.users[k].2):=by
      rcases HQ.out.2 with ⟨_,h0⟩ | ⟨g,cp,b,e,_,J,_,_,_,a1⟩
      ·omega
      ·injection e with e1 _ _;refine ⟨g,e1,b,J,?_,?_⟩
       ·rw [←Array.getElem?_toList,←List.getElem?_take_of_lt (show k * 2 < c.users.length * 2 by omega),a1];exact tp _ k C
       ·rw [←Array.getElem?_toList,←List.getElem?_take_of_lt (show k * 2+1 < c.users.length * 2 by omega),a1];exact qD _ k C
     have D:=U.out.userz c.users[k] (List.getElem_mem C);obtain ⟨t,et⟩:∃t,c.users[k]=t:=⟨_,rfl⟩;rw [et] at l m D;obtain ⟨t0,O⟩:=t;simp only at l m D;clear et;have d0:wr.cell? ⟨g,k * 2,none⟩=some (.string t0):=by rw [Lib.cell_of_heap J];exact l
     have d1:wr.cell? ⟨g,k * 2+1,none⟩=some (.string O):=by rw [Lib.cell_of_heap J];exact m
     obtain ⟨s,Z⟩:∃s:World,wr.alloc (.cells #[.string t0,.string O] 79)=s:=⟨_,rfl⟩;have B1:Below wr.heap.size wr s:=by rw [←Z];exact (Below.refl _ _).alloc (Nat.le_refl _) _
     have X1:s.heap[wr.heap.size]? =some (.cells #[.string t0,.string O] 79 (0,0)):=by rw [←Z];exact heap_alloc_new wr _
     have D1:Below wr.heap.size wr s.drew:=B1.drew;have z:=Lib.hid (p.out.keep D1);have a7:=Lib.hid (dV P.out D1);have g7:=Lib.hid (dV HP.out D1);have g8:=Lib.hid (dV HQ.out D1);have HG:Hid (s.drew.heap[g]? =some (.cells b 79 (0,0))):=Lib.hid (ft D1 J);have HX:Hid (s.drew.heap[wr.heap.size]? =some (.cells #[.string t0,.string O] 79 (0,0))):=Lib.hid X1;have y3:s.cell? ⟨w.heap.size,3,none⟩=some (.slice (some ⟨g,0,none⟩) c.users.length o):=(p.out.keep B1).cell 3;have i3:s.drew.cell? ⟨w.heap.size,3,none⟩=some (.slice (some ⟨g,0,none⟩) c.users.length o):=z.out.cell 3;have x0:s.cell? ⟨wr.heap.size,0,none⟩=some (.string t0):=by rw [Lib.cell_of_heap X1];rfl
     have x1:s.cell? ⟨wr.heap.size,1,none⟩=some (.string O):=by rw [Lib.cell_of_heap X1];rfl
     have h8:s.drew.cell? ⟨wr.heap.size,0,none⟩=some (.string t0):=x0;have h9:s.drew.cell? ⟨wr.heap.size,1,none⟩=some (.string O):=x1;have f8:=Lib.hid (iw t0 s.drew (by omega));have g0:Hid (∀W:World,Calls Tryz.prog 69 #[.string O] W fun e E=>e= .returned (.string O)∧Below W.heap.size W E):=Lib.hid (fun W=>iw O W (by omega));have c5:=Lib.hid l;have c6:=Lib.hid m;have h2:=Lib.hid Z;clear l m J p P HP HQ D Z B1 X1 D1;go_wp2_with fail
     rw [h2.out]
     go_region_law (first
      | (go_simp;go_at_call 69;refine f8.out.mono ?_;rintro e d ⟨rfl,a⟩;have f:=z.out.keep a;have X9:=ft a HX.out;have i4:d.cell? ⟨w.heap.size,3,none⟩=some (.slice (some ⟨g,0,none⟩) c.users.length o):=f.cell 3;have i0:d.cell? ⟨wr.heap.size,1,none⟩=some (.string O):=(by rw [Lib.cell_of_heap X9];rfl);have c2:=Lib.hid f;have c0:=Lib.hid a;clear f X9 a;dsimp only)
      | (go_simp;go_at_call 69;refine (g0.out d).mono ?_;rintro e wa ⟨rfl,d6⟩;have K:=Lib.hid (c0.out.trans (d6.mono c0.out.size));have Ca:=z.out.keep K.out;have ga:=ft K.out HG.out;have da:wa.cell? ⟨g,k * 2,none⟩=some (.string t0):=(by rw [Lib.cell_of_heap ga];exact c5.out);have h4:wa.cell? ⟨g,k * 2+1,none⟩=some (.string O):=(by rw [Lib.cell_of_heap ga];exact c6.out);have fa:=Lib.frozen_of_heap ga (k * 2);have h5:=Lib.frozen_of_heap ga (k * 2+1);have i5:wa.cell? ⟨w.heap.size,3,none⟩=some (.slice (some ⟨g,0,none⟩) c.users.length o):=Ca.cell 3;have N:=Lib.hid Ca;have c4:=Lib.hid ga;clear Ca ga d6;dsimp only))
     all_goals
      go_wp2_with fail
      have s1:=re c4.out c5.out;have s2:=s1.trans ((re (ft s1 c4.out) c6.out).mono s1.size);exact ⟨⟨k+1,by omega,by go_num,Lib.hid (N.out.keep s2),Lib.hid (dV (dV a7.out K.out) s2),Lib.hid (dV (dV g7.out K.out) s2),Lib.hid (dV (dV g8.out K.out) s2)⟩,by simp [intOf];omega⟩
    ·have b8:k=c.users.length:=by omega
     subst b8;have y6:wr.cell? ⟨w.heap.size,6,none⟩=some (.slice G c.waits.length H):=p.out.cell 6;go_wp2_with fail
     refine (Cu c.waits _ wr (HH.out.2.2.2.below p.out.below) U.out.waits).mono ?_;rintro e d ⟨S,I,rfl,f5,a⟩;have f:=p.out.keep a;have y6:d.cell? ⟨w.heap.size,6,none⟩=some (.slice G c.waits.length H):=f.cell 6;have f6:=f.frozen 6;have N:=Lib.hid (f.set (D':= .slice q c.doms.length n) (N':= .slice B c.nets.length r) (U':= .slice u c.users.length o) (V':= .slice S c.waits.length I) 6 (.slice S c.waits.length I) rfl);have a8:=Lib.hid (jN (w:=w) (j:=6) (x:= .slice S c.waits.length I) (dV P.out a));have b1:=Lib.hid (jN (w:=w) (j:=6) (x:= .slice S c.waits.length I) (dV HP.out a));have b3:=Lib.hid (jN (w:=w) (j:=6) (x:= .slice S c.waits.length I) (dV HQ.out a));have b4:=Lib.hid (jN (w:=w) (j:=6) (x:= .slice S c.waits.length I) (sU f5 p.out.big));have Y:=fun j=>f.cell j;have k0:d.cell? ⟨w.heap.size,0,none⟩=some (.string c.host):=Y 0;have k1:d.cell? ⟨w.heap.size,1,none⟩=some (.slice q c.doms.length n):=Y 1;have k2:d.cell? ⟨w.heap.size,2,none⟩=some (.slice B c.nets.length r):=Y 2;have k3:d.cell? ⟨w.heap.size,3,none⟩=some (.slice u c.users.length o):=Y 3;have k4:d.cell? ⟨w.heap.size,4,none⟩=some (.int .i64 c.most):=Y 4;have k5:d.cell? ⟨w.heap.size,5,none⟩=some (.int .i64 c.size):=Y 5;have k7:d.cell? ⟨w.heap.size,7,none⟩=some (.int .i64 c.life):=Y 7;have k8:d.cell? ⟨w.heap.size,8,none⟩=some (.int .i64 c.room):=Y 8;have m0:d.cell? ⟨w.heap.size+1,0,none⟩=some (.string ⟨#[]⟩):=by rw [Lib.cell_of_heap f.out];rfl
     have m1:d.cell? ⟨w.heap.size+1,1,none⟩=some (.slice none 0 0):=by rw [Lib.cell_of_heap f.out];rfl
     have m2:d.cell? ⟨w.heap.size+1,2,none⟩=some (.slice none 0 0):=by rw [Lib.cell_of_heap f.out];rfl
     have m3:d.cell? ⟨w.heap.size+1,3,none⟩=some (.slice none 0 0):=by rw [Lib.cell_of_heap f.out];rfl
     have m4:d.cell? ⟨w.heap.size+1,4,none⟩=some (.int .i64 0):=by rw [Lib.cell_of_heap f.out];rfl
     have m5:d.cell? ⟨w.heap.size+1,5,none⟩=some (.int .i64 0):=by rw [Lib.cell_of_heap f.out];rfl
     have m6:d.cell? ⟨w.heap.size+1,6,none⟩=some (.slice none 0 0):=by rw [Lib.cell_of_heap f.out];rfl
     have m7:d.cell? ⟨w.heap.size+1,7,none⟩=some (.int .i64 0):=by rw [Lib.cell_of_heap f.out];rfl
     have m8:d.cell? ⟨w.heap.size+1,8,none⟩=some (.int .i64 0):=by rw [Lib.cell_of_heap f.out];rfl
     have ff:∀j:Nat,d.frozen? ⟨w.heap.size+1,j,none⟩=false:=fun j=>Lib.frozen_of_heap f.out j;clear Y a f f5 p P HP HQ;go_wp2_with fail
     obtain ⟨Wa,d3⟩:∃Wa:World,d.setCell ⟨w.heap.size,6,none⟩ (.slice S c.waits.length I)=Wa:=⟨_,rfl⟩;rw [d3] at N a8 b1 b3 b4 ⊢;obtain ⟨F,b6⟩:∃F:World,(((((((((Wa.setCell ⟨w.heap.size+1,0,none⟩ (.string c.host)).setCell ⟨w.heap.size+1,1,none⟩ (.slice q c.doms.length n)).setCell ⟨w.heap.size+1,2,none⟩ (.slice B c.nets.length r)).setCell ⟨w.heap.size+1,3,none⟩ (.slice u c.users.length o)).setCell ⟨w.heap.size+1,4,none⟩ (.int .i64 c.most)).setCell ⟨w.heap.size+1,5,none⟩ (.int .i64 c.size)).setCell ⟨w.heap.size+1,6,none⟩ (.slice S c.waits.length I)).setCell ⟨w.heap.size+1,7,none⟩ (.int .i64 c.life)).setCell ⟨w.heap.size+1,8,none⟩ (.int .i64 c.room))=F:=⟨_,rfl⟩;rw [b6];obtain ⟨Q,Sf⟩:=JR N.out b6;have A:=Lib.hid Sf;have e0:F.cell? ⟨w.heap.size+1,0,none⟩=some (.string c.host):=Q 0;have e1:F.cell? ⟨w.heap.size+1,1,none⟩=some (.slice q c.doms.length n):=Q 1;have e2:F.cell? ⟨w.heap.size+1,2,none⟩=some (.slice B c.nets.length r):=Q 2;have e3:F.cell? ⟨w.heap.size+1,3,none⟩=some (.slice u c.users.length o):=Q 3;have e4:F.cell? ⟨w.heap.size+1,4,none⟩=some (.int .i64 c.most):=Q 4;have e5:F.cell? ⟨w.heap.size+1,5,none⟩=some (.int .i64 c.size):=Q 5;have e6:F.cell? ⟨w.heap.size+1,6,none⟩=some (.slice S c.waits.length I):=Q 6;have e7:F.cell? ⟨w.heap.size+1,7,none⟩=some (.int .i64 c.life):=Q 7;have e8:F.cell? ⟨w.heap.size+1,8,none⟩=some (.int .i64 c.room):=Q 8;clear b6 d3 Q Sf;refine bodyPost_ret (v:= .agg #[.string c.host,.slice q c.doms.length n,.slice B c.nets.length r,.slice u c.users.length o,.int .i64 c.most,.int .i64 c.size,.slice S c.waits.length I,.int .i64 c.life,.int .i64 c.room]) (by simp [results,Tryz.results43,go_sem,e0,e1,e2,e3,e4,e5,e6,e7,e8]) rfl ?_
     exact ⟨_,_,_,_,rfl,⟨yN a8.out A.out,yN b1.out A.out,yN b3.out A.out,yN b4.out A.out⟩,N.out.below.trans (A.out.below (by omega)),fun k e=>by
      have h3:F.heap.size=Wa.heap.size:=A.out.1;rw [h3]
      rcases e with e | e | e | e
      ·have:=kD a8.out e;omega
      ·have:=kD b1.out e;omega
      ·have:=kD b3.out e;omega
      ·have:=kD b4.out e;omega⟩
structure sc (p:Nat) (w w':World):Prop where
 size:w.heap.size≤w'.heap.size
 block:∀k,k < w.heap.size→k≠p→w'.heap[k]? =w.heap[k]?
 still:dU w w'
theorem sc.refl (p:Nat) (w:World):sc p w w:=⟨Nat.le_refl _,fun _ _ _=>rfl,dU.refl w⟩
theorem sc.trans {p:Nat} {a b c:World} (h:sc p a b) (d:sc p b c):sc p a c:=⟨Nat.le_trans h.size d.size,fun k e f=>(d.block k (Nat.lt_of_lt_of_le e h.size) f).trans (h.block k e f),h.still.trans d.still⟩
theorem sc.below {p B:Nat} {a b:World} (h:sc p a b) (c:B≤p) (e:B≤a.heap.size):Below B a b:=⟨h.still.1,h.still.2.1,h.still.2.2,h.size,fun k d=>h.block k (by omega) (by omega)⟩
structure jE (base:Nat) (w:World) (b:Nat) (v:Value) (acc:List UInt8):Prop where
 blk:∃p,(p=none∨p=some ⟨b,0,none⟩)∧w.heap[b]? =some (.cells #[.pointer p,v] 133 (0,0))
 row:w.ownsRowF base 5 1 v acc.length (Lib.byteCells acc)
 far:v.ownBlock≠some b
theorem wC (b:Nat) (v:Value) (p:Option Addr) (w:World) (c:p=none∨p=some ⟨b,0,none⟩) (h:w.heap[b]? =some (.cells #[.pointer p,v] 133 (0,0))):
  Calls Tryz.prog 135 #[.pointer (some ⟨b,0,none⟩)] w fun e a=>e= .returned (.tuple #[])∧a.heap[b]? =some (.cells #[.pointer (some ⟨b,0,none⟩),v] 133 (0,0))∧aL b w a:=by
 rcases c with rfl | rfl
 ·refine (Any.Builder_copyCheck_fresh (P:=Tryz.prog) {Tryz.lays159 with} Tryz.Builder_Extra_159.toX72 b w (by rw [Lib.cell_of_heap h];rfl) (by simp only [World.shape?,h];rfl) (Lib.frozen_of_heap h 0)).mono ?_;rintro e a ⟨rfl,rfl⟩;exact ⟨rfl,heap_setCell_same w b 0 _ _ _ h,(aL.refl _ _).setCell _⟩
 ·refine (Any.Builder_copyCheck_used (P:=Tryz.prog) {Tryz.lays159 with} Tryz.Builder_Extra_159.toX72 b w (by rw [Lib.cell_of_heap h];rfl)).mono ?_;rintro e a ⟨rfl,rfl⟩;exact ⟨rfl,h,aL.refl _ _⟩
theorem FN {w:World} {a d f n:Nat} {e:TypeId} {v:Value} {i:List Value} (h:w.ownsRowF a e f v n i) (m:d≤a):w.ownsRowF d e f v n i:=by
 refine ⟨h.1,?_⟩
 rcases h.2 with h | ⟨g,b,c,l,j,k,r⟩
 ·exact .inl h
 ·exact .inr ⟨g,b,c,l,j,Nat.le_trans m k,r⟩
theorem kk {w j:World} {a i n b:Nat} {e:TypeId} {v:Value} {k:List Value} (h:w.ownsRowF a e i v n k) (q:aL b w j) (p:v.ownBlock≠some b):j.ownsRowF a e i v n k:=by
 refine ⟨h.1,?_⟩
 rcases h.2 with h | ⟨g,c,d,o,f,l,m,r⟩
 ·exact .inl h
 ·exact .inr ⟨g,c,d,o,f,l,(q.2 g (fun e=>p (by rw [f,e];rfl))).trans m,r⟩
theorem jW {P:Program} (w:World) (c:Nat) (t u D e:TypeId) (i:TypeInfo) (G:P.underlying t=some (.slice e)) (H:P.underlying u=some .string) (E:P.info? e=some i) (O:i.zero=some (.int .u8 0))
  (a:i.size=1) (o:i.bytes=1) (v:Value) (n:Nat) (y:List Value) (b:w.ownsRowF c e 1 v n y) (s:ByteArray) (m:n+s.size≤maxLen) (d:n+s.size≤140737488355328) (f:c≤w.heap.size):
  ∃r x,(Builtin.append_ #[t,u] D #[v,.string s]).run P w= .ok r x∧x.ownsRowF c e 1 r (n+s.size) (y++Lib.strCells s)∧w.grownBy x v.ownBlock∧∀k,r.ownBlock=some k→v.ownBlock=some k∨w.heap.size≤k:=by
 rcases b.2 with ⟨rfl,rfl⟩ | ⟨g,h,z,R,rfl,S,U,L,V,T,K,M⟩
 ·obtain ⟨r,x,A,I,J,_⟩:=Lib.run_append_own_string (P:=P) w w.heap.size t u D e i G H E O a o (.slice none 0 0) 0 y ⟨b.1,.inl ⟨rfl,rfl⟩⟩ s m d (Nat.le_refl _);have B:=World.ownsRowF_of I;exact ⟨r,x,A,FN B f,J,fun k l=> .inr (B.lt k l).1⟩
 ·obtain ⟨r,x,A,I,J,_⟩:=Lib.run_append_own_stringF (P:=P) w c t u D e i G H E O a o _ n y b s m d f;refine ⟨r,x,A,I,J,fun k l=>?_⟩;have F:n+s.size≤9223372036854775807:=by simp only [maxLen] at m;omega
  have N:y.length=n:=by simpa using b.1
  by_cases q:n+s.size≤h
  ·have Q:z.size=h:=by simpa using K
   have C:=Lib.run_append_room_stringF (P:=P) w t u D e i G H E a g n h z R U (by simpa using L) s q (by omega);rw [A] at C;injection C with e1 _;rw [e1] at l;exact .inl l
  ·have p:∀j u,y[j]? =some u→w.cell? ((⟨g,0,none⟩:Addr).add j)=some u:=b.cells (g:=g) rfl;have C:=Lib.run_append_grow_string (P:=P) w t u D e i (.int .u8 0) G H E O ⟨g,0,none⟩ n h y (by rw [a];simpa using N) p s (by omega) (by omega) (by rw [o];exact growslice_fits (by omega) (by omega));rw [A] at C;injection C with e1 _;rw [e1] at l;injection l with l;exact .inr (Nat.le_of_eq l)
theorem iX {P:Program} {w:World} {c:Array Oper} {b:List Oper} {o:Oper} {a:Act} {Q:Exit→Act→World→Prop} (d:o.guard=none) (e x:Operand) (t u:TypeId)
  (i:o.op= .call {callee:= .builtin .append,args:=#[e,x],argTypes:=#[t,u]}) (v r:Value) (s:ByteArray) (f:World) (k:a.eval e=v) (l:a.eval x= .string s) (j:(Builtin.append_ #[t,u] o.type #[v,.string s]).run P w= .ok r f) (h:wpList P c Q b (a.put o.dst r) f):wpList P c Q (o::b) a w:=
 wpList_plain d fun K g=>by
  unfold Oper.wp execOp;simp only [i,resolve,invoke,builtin,Sem.run_bind,Sem.run_pure,Result.andThen_ok,List.map_toArray,List.map_cons,List.map_nil,k,l,j];exact g _ _ h
theorem lx:(Tryz.prog.info? 5).map (fun i=>(i.zero,i.size,i.bytes))=some (some (.int .u8 0),1,1):=by kernel_rfl
theorem lr (a l:List UInt8):Lib.byteCells (a++l)=Lib.byteCells a++Lib.strCells (bs l):=by simp [Lib.byteCells,Lib.strCells,bs]
theorem r8 (d b:Nat) (v:Value) (m l:List UInt8) (w:World) (h:jE d w b v m) (U:d≤w.heap.size) (a0:m.length+l.length≤140737488355328):
  Calls Tryz.prog 96 #[.pointer (some ⟨b,0,none⟩),.string (bs l)] w fun e I=>(∃r,e= .returned r)∧(∃H,jE d I b H (m++l)∧∀g,H.ownBlock=some g→v.ownBlock=some g∨w.heap.size≤g)∧(∀k o,w.heap[k]? =some o→k≠b→v.ownBlock≠some k→I.heap[k]? =some o)∧dU w I∧w.heap.size≤I.heap.size:=by
 obtain ⟨⟨p,hp,T⟩,A,z⟩:=h;obtain ⟨i,hi,W,X,Y⟩:=info_parts lx;have V:=aG l;have K:=Lib.hid (wC b v p w hp T);have HR:=Lib.hid A;have a1:b < w.heap.size:=(Array.getElem?_eq_some_iff.1 T).1;clear hp T A;go_enter Tryz.func96,Tryz.ntmps96;go_wp2_with fail
 refine K.out.mono ?_;rintro e Z ⟨rfl,D,q⟩;have c1:Z.cell? ⟨b,1,none⟩=some v:=by rw [Lib.cell_of_heap D];rfl
 have a2:Z.heap.size=w.heap.size:=q.1;obtain ⟨H,t,F,u,j,G⟩:=jW (P:=Tryz.prog) Z d 114 9 114 5 i Tryz.underlying114 Tryz.underlying9 hi W X Y v m.length (Lib.byteCells m) (kk HR.out q z) (bs l) (by unfold maxLen;omega) (by omega) (by omega);have s:t.heap[b]? =some (.cells #[.pointer (some ⟨b,0,none⟩),v] 133 (0,0)):=(j.block b (by omega) (fun e=>z e.symm)).trans D;have c2:t.cell? ⟨b,1,none⟩=some v:=by rw [Lib.cell_of_heap s];rfl
 have f2:=Lib.frozen_of_heap s 1
 have f:H.ownBlock≠some b:=fun e=>by
  rcases u.2 with ⟨C,_⟩ | ⟨g,R,S,fz,C,_,e3,_⟩
  ·rw [C] at e;cases e
  ·rw [C] at e;injection e with e;rw [show g=b from e,s] at e3;simp at e3
 obtain ⟨x,B,y,ev⟩:∃a n c,H= .slice a n c:=by
  rcases u.2 with ⟨C,_⟩ | ⟨g,R,S,fz,C,_⟩
  ·exact ⟨_,_,_,C⟩
  ·exact ⟨_,_,_,C⟩
 subst ev;have E:aL b t (t.setCell ⟨b,1,none⟩ (.slice x B y)):=(aL.refl _ _).setCell _
 have J:Hid (jE d (t.setCell ⟨b,1,none⟩ (.slice x B y)) b (.slice x B y) (m++l)):=Lib.hid ⟨⟨_,.inr rfl,heap_setCell_same t b 1 _ _ _ s⟩,by
  rw [lr,List.length_append,←V]
  exact kk u E f,f⟩
 have Q:=Lib.hid (fun g (h:(Value.slice x B y).ownBlock=some g)=>(G g h).imp id (fun h=>(by omega:w.heap.size≤g)));have L:Hid (∀k o,w.heap[k]? =some o→k≠b→v.ownBlock≠some k→(t.setCell ⟨b,1,none⟩ (.slice x B y)).heap[k]? =some o):=Lib.hid (fun k o e h1 h2=>(E.2 k h1).trans ((j.block k (by have:=(Array.getElem?_eq_some_iff.1 e).1;omega) (fun e'=>h2 e'.symm)).trans ((q.2 k h1).trans e)));have N:Hid (dU w (t.setCell ⟨b,1,none⟩ (.slice x B y))):=Lib.hid ((q.3.trans ⟨j.os,j.tape,j.output⟩).trans E.3);have O:Hid (w.heap.size≤(t.setCell ⟨b,1,none⟩ (.slice x B y)).heap.size):=Lib.hid (by rw [E.1];have:=j.size;omega);have M:=Lib.hid F;clear F u j G D q s E f
 go_wp2_with (first
  | (at_builtin;refine iX rfl _ _ 114 9 rfl v (.slice x B y) (bs l) t rfl rfl M.out ?_)
  | fail)
 go_ret2
 exact ⟨⟨_,rfl⟩,⟨_,J.out,Q.out⟩,L.out,N.out,O.out⟩
theorem yD (sb b k:Nat) (C:Array Value) (c:List UInt8) (a:Int) (w:World) (h:bT w sb b C []) (j:C[8]? =some (.pointer (some ⟨k,0,none⟩))):
  Calls Tryz.prog 147 #[.pointer (some ⟨sb,0,none⟩),.string (bs c),.int .i64 a] w fun e f=>e= .returned (.tuple #[])∧bT f sb b C [[53,48,51,32,102,105,114,115,116,13,10]]∧aL b w f:=by
 have g:=Lib.hid (h.tell (by simp) [53,48,51,32,102,105,114,115,116] (by decide));have l:=(h.cell 8).trans j;clear h;go_enter Tryz.func147,Tryz.ntmps147;go_wp2_with fail
 refine g.out.mono ?_;rintro e m ⟨rfl,i,d⟩;go_wp2_with fail
 refine bodyPost_end (results_none rfl _ _ _) rfl ?_;exact ⟨rfl,i,d⟩
theorem yE (sb b f:Nat) (C:Array Value) (c:List UInt8) (a S:Int) (w:World) (h:bT w sb b C []) (l:C[8]? =some (.pointer none)) (j:C[0]? =some (.pointer (some ⟨f,0,none⟩))) (p:w.cell? ⟨f,5,none⟩=some (.int .i64 S)) (m:S < a):
  Calls Tryz.prog 147 #[.pointer (some ⟨sb,0,none⟩),.string (bs c),.int .i64 a] w fun e g=>e= .returned (.tuple #[])∧bT g sb b C [[53,53,50,32,115,105,122,101,13,10]]∧aL b w g:=by
 have i:=Lib.hid (h.tell (by simp) [53,53,50,32,115,105,122,101] (by decide));have o:=(h.cell 8).trans l;have n:=(h.cell 0).trans j;clear h;go_enter Tryz.func147,Tryz.ntmps147;go_wp2_with fail
 refine i.out.mono ?_;rintro e q ⟨rfl,k,d⟩;go_wp2_with fail
 refine bodyPost_end (results_none rfl _ _ _) rfl ?_;exact ⟨rfl,k,d⟩
theorem Ae (sb p D:Nat) (C:Array Value) (b:List UInt8) (f S:Int) (w:World) (h:bT w sb p C []) (B:C[8]? =some (.pointer none)) (F:C[0]? =some (.pointer (some ⟨D,0,none⟩))) (R:w.cell? ⟨D,5,none⟩=some (.int .i64 S)) (K:¬S < f):
  Calls Tryz.prog 147 #[.pointer (some ⟨sb,0,none⟩),.string (bs b),.int .i64 f] w fun e l=>e= .returned (.tuple #[])∧bT l sb p (C.setIfInBounds 8 (.pointer (some ⟨w.heap.size,0,none⟩))) [[50,53,48,32,111,107,13,10]]∧l.heap[w.heap.size]? =some (.cells #[.string (bs b),.slice none 0 0,.pointer none] 216 (0,0))∧(∀k,k < w.heap.size→k≠sb→k≠p→l.heap[k]? =w.heap[k]?)∧dU w l∧w.heap.size≤l.heap.size:=by
 have O:=(h.cell 8).trans B;have N:=(h.cell 0).trans F;have A:sb < w.heap.size:=(Array.getElem?_eq_some_iff.1 h.blk).1;have M:∀o:Obj,(w.alloc o).cell? ⟨sb,8,none⟩=some (.pointer none):=fun o=>by rw [Lib.cell_of_heap ((((Below.refl w.heap.size w).alloc (Nat.le_refl _) o).block sb A).trans h.blk)];exact B
 have P:∀o:Obj,(w.alloc o).frozen? ⟨sb,8,none⟩=false:=fun o=>Lib.frozen_of_heap ((((Below.refl w.heap.size w).alloc (Nat.le_refl _) o).block sb A).trans h.blk) 8;have m:aL sb w (w.setCell ⟨sb,8,none⟩ (.pointer (some ⟨w.heap.size,0,none⟩))):=(aL.refl _ _).setCell _;have t:=h.set 8 (by decide) (.pointer (some ⟨w.heap.size,0,none⟩));obtain ⟨i,j⟩:∃i:World,w.setCell ⟨sb,8,none⟩ (.pointer (some ⟨w.heap.size,0,none⟩))=i:=⟨_,rfl⟩;rw [j] at m t;obtain ⟨n,d⟩:∃n:World,i.alloc (.cells #[.string (bs b),.slice none 0 0,.pointer none] 216)=n:=⟨_,rfl⟩;have q:Below i.heap.size i n:=by rw [←d];exact (Below.refl _ _).alloc (Nat.le_refl _) _
 have z:n.heap[w.heap.size]? =some (.cells #[.string (bs b),.slice none 0 0,.pointer none] 216 (0,0)):=by rw [←d,←m.1];exact heap_alloc_new i _
 have E:=Lib.hid ((t.below q).tell (by simp) [50,53,48,32,111,107] (by decide));have y:p≠w.heap.size:=by obtain ⟨s,r,J⟩:=h.chan;have:=(Array.getElem?_eq_some_iff.1 J).1;omega
 have g:=Lib.hid m;have a:=Lib.hid q;have x:=Lib.hid z;have u:=Lib.hid j;have v:=Lib.hid d;clear h t q z j d m;go_enter Tryz.func147,Tryz.ntmps147;go_wp2_with fail
 rw [u.out,v.out];refine E.out.mono ?_;rintro e T ⟨rfl,H,c⟩;go_wp2_with fail
 refine bodyPost_end (results_none rfl _ _ _) rfl ?_;have L:i.heap.size=w.heap.size:=g.out.1;refine ⟨rfl,H,(c.2 _ (Ne.symm y)).trans x.out,fun k Q G I=>(c.2 k I).trans ((a.out.block k (by omega)).trans (g.out.2 k G)),(g.out.3.trans ⟨a.out.1,a.out.2,a.out.3⟩).trans c.3,?_⟩;rw [c.1];have:=a.out.size;omega
def jA (verb:Int) (greeted:Bool) (tx:Option Nat):Bool:=
 if verb=5 then (match tx with | none=>false | some n=>decide (0 < n)) && greeted
 else if verb=10 then tx.isSome && greeted
 else if verb=8∨verb=9 then greeted else true
theorem Dw (sb k:Nat) (C:Array Value) (o:List (List UInt8)) (a:Int) (g:Bool) (w:World) (h:bT w sb k C o) (l:C[5]? =some (.bool g)) (m:C[8]? =some (.pointer none)):
  Calls Tryz.prog 141 #[.pointer (some ⟨sb,0,none⟩),.int .i64 a] w fun e i=>e= .returned (.bool (jA a g none))∧w=i:=by
 have q:=(h.cell 5).trans l;have r:=(h.cell 8).trans m;have j:=Lib.hid (oV w);clear h
 by_cases c:a=5
 ·subst c;go_enter Tryz.func141,Tryz.ntmps141;go_wp2_with fail
  refine j.out.mono ?_;rintro e i ⟨rfl,rfl⟩;go_wp2_with fail
  go_ret;exact ⟨rfl,rfl⟩
 ·by_cases b:a=10
  ·subst b;go_enter Tryz.func141,Tryz.ntmps141;go_wp2_with fail
   go_ret;exact ⟨rfl,rfl⟩
  ·by_cases d:a=8
   ·subst d;go_enter Tryz.func141,Tryz.ntmps141;go_wp2_with fail
    go_ret;exact ⟨rfl,rfl⟩
   ·by_cases f:a=9
    ·subst f;go_enter Tryz.func141,Tryz.ntmps141;go_wp2_with fail
     go_ret;exact ⟨rfl,rfl⟩
    ·have s:(a == 5)=false:=by rw [beq_eq_false_iff_ne];exact c
     have p:(a == 10)=false:=by rw [beq_eq_false_iff_ne];exact b
     have t:(a == 8)=false:=by rw [beq_eq_false_iff_ne];exact d
     have u:(a == 9)=false:=by rw [beq_eq_false_iff_ne];exact f
     have n:jA a g none=true:=by unfold jA;rw [if_neg c,if_neg b,if_neg (by omega)]
     rw [n];go_enter Tryz.func141,Tryz.ntmps141;go_wp2_with fail
     go_ret;exact ⟨rfl,rfl⟩
theorem Dx (sb r k n c:Nat) (a:Option Addr) (C:Array Value) (u:List (List UInt8)) (b:Int) (g:Bool) (w:World) (h:bT w sb r C u) (s:C[5]? =some (.bool g)) (t:C[8]? =some (.pointer (some ⟨k,0,none⟩))) (q:w.cell? ⟨k,1,none⟩=some (.slice a n c)):
  Calls Tryz.prog 141 #[.pointer (some ⟨sb,0,none⟩),.int .i64 b] w fun e l=>e= .returned (.bool (jA b g (some n)))∧w=l:=by
 have x:=(h.cell 5).trans s;have y:=(h.cell 8).trans t;have i:=Lib.hid (pO k n c a w q);clear h q
 by_cases j:b=5
 ·subst j;have f:jA 5 g (some n)=(decide (0 < n) && g):=rfl;rw [f]
  by_cases p:0 < n
  ·rw [decide_eq_true p] at i ⊢;go_enter Tryz.func141,Tryz.ntmps141;go_wp2_with fail
   refine i.out.mono ?_;rintro e l ⟨rfl,rfl⟩;go_wp2_with fail
   go_ret;exact ⟨by simp,rfl⟩
  ·rw [decide_eq_false p] at i ⊢;go_enter Tryz.func141,Tryz.ntmps141;go_wp2_with fail
   refine i.out.mono ?_;rintro e l ⟨rfl,rfl⟩;go_wp2_with fail
   go_ret;exact ⟨by simp,rfl⟩
 ·by_cases d:b=10
  ·subst d;have f:jA 10 g (some n)=g:=by cases g <;> rfl
   rw [f];go_enter Tryz.func141,Tryz.ntmps141;go_wp2_with fail
   go_ret;exact ⟨rfl,rfl⟩
  ·by_cases m:b=8
   ·subst m;go_enter Tryz.func141,Tryz.ntmps141;go_wp2_with fail
    go_ret;exact ⟨rfl,rfl⟩
   ·by_cases o:b=9
    ·subst o;go_enter Tryz.func141,Tryz.ntmps141;go_wp2_with fail
     go_ret;exact ⟨rfl,rfl⟩
    ·have z:(b == 5)=false:=by rw [beq_eq_false_iff_ne];exact j
     have v:(b == 10)=false:=by rw [beq_eq_false_iff_ne];exact d
     have A:(b == 8)=false:=by rw [beq_eq_false_iff_ne];exact m
     have B:(b == 9)=false:=by rw [beq_eq_false_iff_ne];exact o
     have f:jA b g (some n)=true:=by unfold jA;rw [if_neg j,if_neg d,if_neg (by omega)]
     rw [f];go_enter Tryz.func141,Tryz.ntmps141;go_wp2_with fail
     go_ret;exact ⟨rfl,rfl⟩
open Go.RowKit Go.Shelf
def mE (l:List Nat):List Nat:=l.mergeSort (fun x y=>decide (x≤y))
theorem qe (l:List Nat):aZ l=(l.map fun (n:Nat)=>(n:Int)).map (Value.int .i64):=by unfold aZ;rw [List.map_map];rfl
theorem FR (l:List Nat):(l.map fun (n:Nat)=>(n:Int)).mergeSort (fun x y=>decide (x≤y))=(mE l).map fun (n:Nat)=>(n:Int):=by
 unfold mE;rw [List.map_mergeSort (s:=fun x y=>decide (x≤y))];intro a _ b _;rw [Bool.eq_iff_iff];simp only [decide_eq_true_eq];omega
theorem yg (B:Nat) (v:Value) (l:List Nat) (w:World) (h:w.ownsRow B 3 1 v l.length (aZ l)) (x:l.length≤1000):
  Calls Tryz.prog 94 #[v] w fun e d=>e= .returned (.tuple #[])∧d.ownsRow B 3 1 v l.length (aZ (mE l))∧aH (fun k=>v.ownBlock=some k) w d:=by
 have c:(mE l).length=l.length:=List.length_mergeSort _
 rcases h.2 with ⟨rfl,o⟩ | ⟨g,a,b,rfl,t,f,p,q,r,s⟩
 ·have i:l=[]:=List.eq_nil_of_length_eq_zero o;subst i;refine (AnyM.slices_Sort_int_none Tryz.sortA none 0 w).mono ?_;rintro e d ⟨rfl,rfl⟩;exact ⟨rfl,by simpa [mE] using h,aH.refl _ _⟩
 ·have u:Go.Sort.Holds (Value.int .i64) w g 0 (l.map fun (n:Nat)=>(n:Int)).toArray:=holds_of_blockI f (by rw [List.length_map,←qe,←s,Nat.mul_one]);have j:=AnyM.slices_Sort_int Tryz.sortA g 0 a (l.map fun (n:Nat)=>(n:Int)) w u (ah f) (by rw [List.length_map];omega);rw [List.length_map] at j;refine j.mono ?_;rintro e d ⟨rfl,n,m,rfl⟩;rw [FR];refine ⟨rfl,?_,(aH.grown (grownBy_sortedI _)).mono (fun k _ e=>by rw [show (Value.slice (some ⟨g,0,none⟩) l.length a).ownBlock=some g from rfl];exact e)⟩;have:=ownsRow_sortedI (w:=w) (base:=B) (g:=g) (cap:=a) (n:=n) (e:=3) (os:=m) (cur:=b) (ss:=l.map fun (n:Nat)=>(n:Int)) (ts:=(mE l).map fun (n:Nat)=>(n:Int)) (by rw [List.length_map,List.length_map,c]) t f (by rw [List.length_map];exact p) q r;rw [List.length_map] at this;rw [qe];exact this
end Go.Proofs.YtofpegbpgkkgkaaGreatDoor
