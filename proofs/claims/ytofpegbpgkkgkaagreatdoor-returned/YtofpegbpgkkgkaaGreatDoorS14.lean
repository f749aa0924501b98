import Derived.Test.YtofpegbpgkkgkaaGreatDoorS12
import Derived.Test.YtofpegbpgkkgkaaGreatDoorS11
namespace Go.Proofs.YtofpegbpgkkgkaaGreatDoor
set_option maxHeartbeats 8000000
set_option maxRecDepth 1000000
open Go.RowKit
theorem nA (l:List UInt8) (w:World) (hl:l.length≤536870912):Calls Tryz.prog 118 #[.string (bs l)] w (tz l w):=by
 have sl:=aG l;obtain ⟨s,hs⟩:∃s,w.heap.size=s:=⟨_,rfl⟩;obtain ⟨W0,K⟩:∃W0:World,(w.alloc (.cells #[.int .i64 0,.slice none 0 0] 193)).alloc (.cells #[.string (bs l),.bool false] 187)=W0:=⟨_,rfl⟩;obtain ⟨F0,R0,B0,Z0⟩:=yn hs hl K;have p:=iY (s+1) 1 (some l) W0 F0 (by decide);have H:=Lib.hid K;have j:=Lib.hid hs;have z:=Lib.hid R0;have y:=Lib.hid B0;have S:=Lib.hid Z0;clear K F0 R0 B0 Z0
 by_cases m:l.take 1=[70]
 ·obtain ⟨r,hr⟩:∃r,l.drop 1=r:=⟨_,rfl⟩;have HL:Hid (l=70::r):=Lib.hid (by rw [←List.take_append_drop 1 l,m,hr];rfl);have e1:(some l).bind (bm 1)=some ([70],r):=by show bm 1 l=_;rw [HL.out];rfl
  have A:Hid (bS l=(fZ 4 r).bind fun a=>(dq a.2).bind fun x=>if a.1≤1000000000 then some (a.1,x.1,x.2) else none):=Lib.hid (by rw [HL.out];unfold bS;simp only;rw [if_pos trivial]);rw [e1] at p;have m1:((bs (gK (some ([70],r)))).toList == [70])=true:=by show ((bs [70]).toList == [70])=true;rw [qM];rfl
  have h:=Lib.hid p;clear p e1 hr m;go_enter Tryz.func118,Tryz.ntmps118;go_wp2_with fail
  rw [H.out];refine h.out.mono ?_;rintro e u ⟨rfl,B,d⟩;have F1:gG u (s+1) (some r):=B;have k:oe u s 0 (.slice none 0 0):=(d.2 s (by omega)).trans z.out;have P:=y.out.trans (d.below (by omega));have V:u.heap.size=s+2:=d.1.trans S.out;obtain ⟨T,X,hT⟩:∃T X,gj 4 (some r)=(T,X):=⟨_,_,rfl⟩;have a6:T≤4294967295:=by have:=lZ 4 (some r);rw [hT] at this;simp at this;omega
  have f:Hid (bS l=(jv X).bind fun x=>if T≤1000000000 then some (T,x.1,x.2) else none):=Lib.hid (by
   rw [A.out,jI,hT]
   cases X with
   | none=>rfl
   | some q=>rfl)
  have M:Calls Tryz.prog 111 #[.pointer (some ⟨s+1,0,none⟩),.int .i64 4] u fun e w'=>e= .returned (.int .i64 (gj 4 (some r)).1)∧gG w' (s+1) (gj 4 (some r)).2∧aL (s+1) u w':=dZ (s+1) 4 (some r) u F1 (by decide);rw [hT] at M;have Q:=Lib.hid M;have D:=Lib.hid k;have C:=Lib.hid P;have E:=Lib.hid V;clear B d F1 k P V h z y S H hT M A;go_wp2_with fail
  refine Q.out.mono ?_;rintro e O ⟨rfl,B,d⟩;have k:oe O s 0 (.slice none 0 0):=(d.2 s (by omega)).trans D.out;have P:=C.out.trans (d.below (by omega));have V:O.heap.size=s+2:=d.1.trans E.out;have R:=Lib.hid (rH (s+1) X O B (by omega));have a0:=Lib.hid k;have F:=Lib.hid P;have I:=Lib.hid V;clear B d k P V Q D C E;go_wp2_with fail
  refine R.out.mono ?_;rintro e b ⟨L,n⟩;have U:oe b s 0 (.slice none 0 0):=(n.block s (by have:=I.out;omega) (by omega)).trans a0.out;have Z:b.cell? ⟨s,0,none⟩=some (.int .i64 0):=(U.cell 0).1;have g0:=(U.cell 0).2;have r1:b.cell? ⟨s,1,none⟩=some (.slice none 0 0):=(U.cell 1).1;have g1:=(U.cell 1).2;have G:Hid (Below s w b):=Lib.hid (F.out.trans (n.below (by omega) (by have:=I.out;omega)));have a7:s < b.heap.size:=eI Z;have a9:∀o:Obj,(b.alloc o).cell? ⟨s,0,none⟩=some (.int .i64 0):=fun o=>(((Below.refl b.heap.size b).alloc (Nat.le_refl _) o).cell (eI Z)).trans Z;have b0:∀o:Obj,(b.alloc o).cell? ⟨s,1,none⟩=some (.slice none 0 0):=fun o=>(((Below.refl b.heap.size b).alloc (Nat.le_refl _) o).cell (eI r1)).trans r1;have a4:∀o:Obj,(b.alloc o).frozen? ⟨s,0,none⟩=false:=fun o=>(((Below.refl b.heap.size b).alloc (Nat.le_refl _) o).frozen (eI Z)).trans g0;have a5:∀o:Obj,(b.alloc o).frozen? ⟨s,1,none⟩=false:=fun o=>(((Below.refl b.heap.size b).alloc (Nat.le_refl _) o).frozen (eI r1)).trans g1;have a8:¬b.heap.size=s:=by omega
  have a1:¬s=b.heap.size:=by omega
  clear n U R
  rcases L with ⟨N,rfl⟩ | ⟨id,Y,v,N,rfl,W,B,d,h3,h4⟩
  ·have i:Hid (bS l=none):=Lib.hid (by rw [f.out,N];rfl);clear N f;go_wp2_with fail
   refine bodyPost_ret (v:= .tuple #[.int .i64 0,.agg #[.int .i64 0,.slice none 0 0],.bool false]) (by simp [results,Tryz.results118,go_sem, *]) rfl ?_;refine ⟨.inl ⟨i.out,rfl⟩,?_⟩;rw [j.out];exact ((G.out.setCell (Nat.le_refl _) _).setCell (Nat.le_refl _) _).alloc (by simp;omega) _
  ·obtain ⟨a,cp,rfl⟩:∃a cp,v= .slice a Y.length cp:=by
    rcases W.2 with ⟨e,h0⟩ | ⟨g,a2,a3,e,_⟩
    ·exact ⟨_,_,by rw [h0];exact e⟩
    ·exact ⟨_,_,e⟩
   rw [I.out] at W;have HO:=Lib.hid W;have H4:=Lib.hid h4
   by_cases J:T≤1000000000
   ·have i:Hid (bS l=some (T,id,Y)):=Lib.hid (by rw [f.out,N,sb,if_pos J]);have hd:decide (1000000000 < (T:Int))=false:=decide_eq_false (by omega);clear N f W h4;go_wp2_with fail
    go_region
    go_wp2_with fail
    refine bodyPost_ret (v:= .tuple #[.int .i64 T,.agg #[.int .i64 id,.slice a Y.length cp],.bool true]) (by simp [results,Tryz.results118,go_sem, *]) rfl ?_;refine ⟨.inr ⟨T,id,Y,.slice a Y.length cp,i.out,rfl,⟨?_,B,d,h3,H4.out⟩,J⟩,?_⟩
    ·rw [j.out];exact ((((nX (nX HO.out (by omega)) (by omega)).alloc _).drew)).mono (by omega)
    ·rw [j.out];exact (((G.out.setCell (Nat.le_refl _) _).setCell (Nat.le_refl _) _).alloc (by simp;omega) _).drew
   ·have i:Hid (bS l=none):=Lib.hid (by rw [f.out,N,sb,if_neg J]);have hd:decide (1000000000 < (T:Int))=true:=decide_eq_true (by omega);clear N f W h4;go_wp2_with fail
    refine bodyPost_ret (v:= .tuple #[.int .i64 0,.agg #[.int .i64 0,.slice none 0 0],.bool false]) (by simp [results,Tryz.results118,go_sem, *]) rfl ?_;refine ⟨.inl ⟨i.out,rfl⟩,?_⟩;rw [j.out];exact ((G.out.setCell (Nat.le_refl _) _).setCell (Nat.le_refl _) _).alloc (by simp;omega) _
 ·have A:Hid (bS l=none):=Lib.hid (by
   cases l with
   | nil=>rfl
   | cons c r=>
    have p:¬c=70:=fun e=>m (by rw [e];rfl);unfold bS;simp only
    rw [if_neg p])
  have m1:((bs (gK ((some l).bind (bm 1)))).toList == [70])=false:=by
   rw [qM]
   cases l with
   | nil=>rfl
   | cons c r=>
    have p:¬c=70:=fun e=>m (by rw [e];rfl);show ([c] == [70])=false;simpa using p
  obtain ⟨t,et⟩:∃t,gK ((some l).bind (bm 1))=t:=⟨_,rfl⟩;rw [et] at m1 p;have h:=Lib.hid p;clear m et p;go_enter Tryz.func118,Tryz.ntmps118;go_wp2_with fail
  rw [H.out];refine h.out.mono ?_;rintro e u ⟨rfl,B,d⟩;have k:oe u s 0 (.slice none 0 0):=(d.2 s (by omega)).trans z.out;have Z:u.cell? ⟨s,0,none⟩=some (.int .i64 0):=(k.cell 0).1;have g0:=(k.cell 0).2;have r1:u.cell? ⟨s,1,none⟩=some (.slice none 0 0):=(k.cell 1).1;have g1:=(k.cell 1).2;have F:=Lib.hid (y.out.trans (d.below (by omega)));clear B d k h z y;go_wp2_with fail
  refine bodyPost_ret (v:= .tuple #[.int .i64 0,.agg #[.int .i64 0,.slice none 0 0],.bool false]) (by simp [results,Tryz.results118,go_sem, *]) rfl ?_;refine ⟨.inl ⟨A.out,rfl⟩,?_⟩;rw [j.out];exact (F.out.setCell (Nat.le_refl _) _).setCell (Nat.le_refl _) _
def fY (l:List (List UInt8)):List UInt8:=Jq++l.flatMap fun t=>[13,10]++t
theorem Bm (l:List (List UInt8)) (k:Nat) (h:k < l.length):fY (l.take (k+1))=fY (l.take k)++([13,10]++l[k]):=by
 unfold fY;rw [List.take_succ_eq_append_getElem h,List.flatMap_append];simp
theorem Bl (a:List (List UInt8)) (b:List Nat):fY (b.map fun i=>a.getD i [])=Ai a b:=by
 unfold fY Ai;rw [List.flatMap_map];rfl
theorem nB (l:List (List UInt8)) (v:Value) (w:World) (h:bg w v l.length 1 (cm l)) (D:l.length≤255) (q:∀t∈l,t.length≤255):
  Calls Tryz.prog 170 #[v] w fun e z=>e= .returned (.string (bs (fY l)))∧w=z:=by
 obtain ⟨a,u,rfl,o⟩:=h.one;have r:=Lib.hid o;have s:=Lib.hid q;clear h o q;go_enter Tryz.func170,Tryz.ntmps170;go_wp2_with fail
 go_loop [3,8] (fun b i=>∃(k:Nat) (B:List UInt8),k≤l.length∧i= .int .i64 k∧b= .string (bs B)∧B.length≤14+257 * k∧Hid (B=fY (l.take k))) (fun _ i=>l.length - (intOf i).toNat)
 case atStart=>exact ⟨0,Jq,Nat.zero_le _,rfl,rfl,by decide,Lib.hid (by simp [fY])⟩
 case round=>
  obtain ⟨k,B,C,rfl,rfl,A,f⟩:=hrel;have F:=aG B
  by_cases d:k < l.length
  ·have p:(k:Int) < (l.length:Int):=by omega
   obtain ⟨b,y,rfl,x,c⟩:=r.out k d;rw [eh l k d] at c;have j:=s.out l[k] (List.getElem_mem d);have m:=Lib.hid (Bm l k d);obtain ⟨t,n⟩:∃t,l[k]=t:=⟨_,rfl⟩;rw [n] at c j m;have G:=aG t;have E:((⟨#[13,10]⟩:ByteArray)++bs t).size≤257:=by rw [show (⟨#[13,10]⟩:ByteArray)=bs [13,10] from rfl,cE,aG];simp;omega
   clear n;go_wp2_with fail
   refine ⟨⟨k+1,B++([13,10]++t),by omega,by go_num,?_,by simp;omega,Lib.hid (by rw [m.out,←f.out])⟩,by simp [intOf];omega⟩
   rw [show (⟨#[13,10]⟩:ByteArray)=bs [13,10] from rfl,cE,cE]
  ·have g:k=l.length:=by omega
   subst g;rw [List.take_length] at f;go_wp2_with fail
   go_ret;exact ⟨by rw [←f.out];rfl,rfl⟩
theorem GU (P:Nat) (T:List UInt8) (b a:Nat) (w:World) (c:w.cell? ⟨b,0,none⟩=some (.int .i64 a)):
  Calls Tryz.prog 258 #[.agg #[.int .i64 P,.string (bs T)],.pointer (some ⟨b,0,none⟩)] w fun e g=>e= .returned (.bool (decide (P=a)))∧Below w.heap.size w g:=by
 have f:∀o:Obj,(w.alloc o).cell? ⟨b,0,none⟩=some (.int .i64 a):=fun o=>by
  rw [((Below.refl _ w).alloc (Nat.le_refl _) o).cell (show b < w.heap.size from eI c)];exact c
 go_enter Tryz.func258,Tryz.ntmps258;go_wp2_with fail
 go_ret;have d:((P:Int) == (a:Int))=decide (P=a):=by rw [Bool.eq_iff_iff];simp only [beq_iff_eq,decide_eq_true_eq];omega
 exact ⟨by rw [←d];rfl,(Below.refl _ w).alloc (Nat.le_refl _) _⟩
theorem wu {l:List (Nat×List UInt8)} {p:Nat×List UInt8→Bool} {k:Nat} (h:k < l.length) (a:(l.take k).any p=false) (b:p l[k]=false):(l.take (k+1)).any p=false:=by
 rw [List.take_succ_eq_append_getElem h,List.any_append,a];simp [b]
theorem I3 {l:List (Nat×List UInt8)} {p:Nat×List UInt8→Bool} {k:Nat} (h:k < l.length) (a:p l[k]=true):l.any p=true:=List.any_eq_true.2 ⟨_,List.getElem_mem h,a⟩
theorem wJ (q:Nat) (l:List (Nat×List UInt8)) (v:Value) (y d:Nat) (w:World) (F:w.ownsRow q 162 2 v l.length (aR l)) (O:w.cell? ⟨y,0,none⟩=some (.int .i64 d)) (hl:l.length≤255):
  Calls Tryz.prog 282 #[v,.func (.func 258) #[] #[.pointer (some ⟨y,0,none⟩)]] w fun e G=>∃r:Int,e= .returned (.int .i64 r)∧(-1≤r∧r≤255)∧decide (0≤r)=l.any (fun x=>decide (x.1=d))∧Below w.heap.size w G:=by
 have U:=Lib.hid F;have H:=Lib.hid O
 obtain ⟨V,Z,rfl⟩:∃a c,v= .slice a l.length c:=by
  rcases F.2 with ⟨e,M⟩ | ⟨g,W,D,e,_⟩
  ·exact ⟨_,_,by rw [M];exact e⟩
  ·exact ⟨_,_,e⟩
 obtain ⟨s,S⟩:∃s,w.heap.size=s:=⟨_,rfl⟩;have h:=Lib.hid S;clear F S O;go_enter Tryz.func282,Tryz.ntmps282;go_wp2_with fail
 go_loopw [5,8] (fun _ i G=>∃k:Nat,k≤l.length∧i= .int .i64 k∧Hid ((l.take k).any (fun x=>decide (x.1=d))=false)∧Hid (Below s w G)) (fun _ i _=>l.length - (intOf i).toNat)
 case atStart=>exact ⟨0,Nat.zero_le _,rfl,Lib.hid rfl,Lib.hid (by rw [←h.out];exact Below.refl _ _)⟩
 case round=>
  obtain ⟨k,hk,rfl,z,m⟩:=hrel
  by_cases j:k < l.length
  ·have R:(k:Int) < (l.length:Int):=by omega
   obtain ⟨g,rfl,B,C⟩:∃g,V=some ⟨g,0,none⟩∧w.cell? ⟨g,k * 2,none⟩=some (.int .i64 (l[k].1:Int))∧w.cell? ⟨g,k * 2+1,none⟩=some (.string (bs l[k].2)):=by
    rcases U.out.2 with ⟨_,M⟩ | ⟨g,Y,D,e,_,Q,_,_,_,u⟩
    ·omega
    ·injection e with e1 _ _;refine ⟨g,e1,?_,?_⟩
     ·rw [Lib.cell_of_heap Q,←Array.getElem?_toList,←List.getElem?_take_of_lt (show k * 2 < l.length * 2 by omega),u];exact (dP l k j).1
     ·rw [Lib.cell_of_heap Q,←Array.getElem?_toList,←List.getElem?_take_of_lt (show k * 2+1 < l.length * 2 by omega),u];exact (dP l k j).2
   have I:wr.cell? ⟨g,k * 2,none⟩=some (.int .i64 (l[k].1:Int)):=(m.out.cell (by show g < s;rw [←h.out];exact eI B)).trans B;have J:wr.cell? ⟨g,k * 2+1,none⟩=some (.string (bs l[k].2)):=(m.out.cell (by show g < s;rw [←h.out];exact eI C)).trans C;have K:wr.cell? ⟨y,0,none⟩=some (.int .i64 d):=(m.out.cell (by show y < s;rw [←h.out];exact eI H.out)).trans H.out;have p:Hid (∀b:Bool,decide (l[k].1=d)=b→(b=true→l.any (fun x=>decide (x.1=d))=true)∧(b=false→(l.take (k+1)).any (fun x=>decide (x.1=d))=false)):=Lib.hid (fun b N=>⟨fun e=>I3 j (by rw [N,e]),fun e=>wu j z.out (by rw [N,e])⟩);obtain ⟨x,L⟩:∃x,l[k]=x:=⟨_,rfl⟩;rw [L] at I J p;obtain ⟨P,T⟩:=x;simp only at I J;have f:=Lib.hid (GU P T y d wr K);have t:s≤wr.heap.size:=by have:=m.out.size;have:=h.out;omega
   clear L B C K z
   cases o:decide (P=d) with
   | true=>
    have A:=Lib.hid ((p.out true o).1 rfl);rw [o] at f;clear p o;go_wp2_with (first | (go_at_call 258;refine f.out.mono ?_;rintro e X ⟨rfl,n⟩) | fail)
    go_ret;exact ⟨_,rfl,by omega,by rw [A.out];simp,by rw [h.out];exact m.out.trans (n.mono t)⟩
   | false=>
    have A:=Lib.hid ((p.out false o).2 rfl);rw [o] at f;clear p o;go_wp2_with (first | (go_at_call 258;refine f.out.mono ?_;rintro e X ⟨rfl,n⟩) | fail)
    exact ⟨⟨k+1,by omega,by go_num,A,Lib.hid (m.out.trans (n.mono t))⟩,by simp [intOf];omega⟩
  ·have E:k=l.length:=by omega
   subst E;rw [List.take_length] at z;go_wp2_with fail
   go_ret;exact ⟨_,rfl,by omega,by rw [z.out];rfl,by rw [h.out];exact m.out⟩
theorem qJ (b:Nat) (l:List (Nat×List UInt8)) (v:Value) (c a:Nat) (w:World) (h:w.ownsRow b 162 2 v l.length (aR l)) (d:w.cell? ⟨c,0,none⟩=some (.int .i64 a)) (m:l.length≤255):
  Calls Tryz.prog 257 #[v,.func (.func 258) #[] #[.pointer (some ⟨c,0,none⟩)]] w fun e i=>e= .returned (.bool (l.any (fun x=>decide (x.1=a))))∧Below w.heap.size w i:=by
 have g:=wJ b l v c a w h d m;clear h d;go_enter Tryz.func257,Tryz.ntmps257;go_wp2_with fail
 refine g.mono ?_;rintro e i ⟨r,rfl,n,f,k⟩;have j:=Lib.hid f;clear f g;go_wp2_with fail
 go_ret;exact ⟨by rw [←j.out];rfl,k⟩
theorem CK (u q I:Nat) (O E:List UInt8) (v vp:Value) (l:List (Nat×List UInt8)) (f:List Nat) (x:Int×Int) (w:World) (h:dL w q I O v E x) (V:w.ownsRow u 162 2 v l.length (aR l)) (hp:bg w vp f.length 1 (aZ f)) (hl:l.length≤255) (a0:f.length≤255):
  Calls Tryz.prog 222 #[.pointer (some ⟨q,0,none⟩),vp] w fun e X=>e= .returned (.bool (f.all fun x=>l.any fun r=>decide (r.1=x)))∧Below w.heap.size w X:=by
 obtain ⟨a,M,rfl,G⟩:=hp.one;have HV:=Lib.hid V;have HC:=Lib.hid G;have HH:=Lib.hid h
 obtain ⟨av,cv,rfl⟩:∃a c,v= .slice a l.length c:=by
  rcases V.2 with ⟨e,h0⟩ | ⟨g,M,N,e,_⟩
  ·exact ⟨_,_,by rw [h0];exact e⟩
  ·exact ⟨_,_,e⟩
 obtain ⟨s,T⟩:∃s,w.heap.size=s:=⟨_,rfl⟩;have m:=Lib.hid T;have S:q < s:=by rw [←T];exact sZ h
 clear V T G h hp;go_enter Tryz.func222,Tryz.ntmps222;go_wp2_with fail
 go_loopw [6,9] (fun _ i X=>∃k:Nat,k≤f.length∧i= .int .i64 k∧Hid ((f.take k).all (fun x=>l.any fun r=>decide (r.1=x))=true)∧Hid (Below s w X)) (fun _ i _=>f.length - (intOf i).toNat)
 case atStart=>exact ⟨0,Nat.zero_le _,rfl,Lib.hid rfl,Lib.hid (by rw [←m.out];exact Below.refl _ _)⟩
 case round=>
  obtain ⟨k,hk,rfl,J,B⟩:=hrel
  by_cases p:k < f.length
  ·have Z:(k:Int) < (f.length:Int):=by omega
   obtain ⟨b,W,rfl,Q,j⟩:=HC.out k p;rw [lY f k p] at j;have d0:wr.cell? ⟨b,W+k,none⟩=some (.int .i64 (f[k]:Int)):=(B.out.cell (by show b < s;rw [←m.out];exact Q)).trans j
   have D:Hid (∀c:Bool,l.any (fun r=>decide (r.1=f[k]))=c→(c=true→(f.take (k+1)).all (fun x=>l.any fun r=>decide (r.1=x))=true)∧(c=false→f.all (fun x=>l.any fun r=>decide (r.1=x))=false)):=Lib.hid (fun c G=>⟨fun e=>by
     rw [List.take_succ_eq_append_getElem p,List.all_append,J.out];simp only [List.all_cons,List.all_nil,Bool.and_true,Bool.true_and];rw [G,e],fun e=>by
     rw [List.all_eq_false]
     exact ⟨f[k],List.getElem_mem p,by rw [G,e];simp⟩⟩)
   obtain ⟨P,Y⟩:∃P,f[k]=P:=⟨_,rfl⟩;rw [Y] at d0 D;obtain ⟨t,n⟩:∃t:World,wr.alloc (.cells #[.int .i64 P] 3)=t:=⟨_,rfl⟩;have y:Below wr.heap.size wr t:=by rw [←n];exact (Below.refl _ _).alloc (Nat.le_refl _) _
   have F:t.heap[wr.heap.size]? =some (.cells #[.int .i64 P] 3 (0,0)):=by rw [←n];exact heap_alloc_new wr _
   have p0:t.cell? ⟨wr.heap.size,0,none⟩=some (.int .i64 P):=by rw [Lib.cell_of_heap F];rfl
   have U:s≤wr.heap.size:=by have:=B.out.size;have:=m.out;omega
   have K:Hid (Below s w t):=Lib.hid (B.out.trans (y.mono U))
   have k2:∀o:Obj,(wr.alloc o).cell? ⟨q,2,none⟩=some (.slice av l.length cv):=fun o=>by
    have:=ae (w:=wr) ((Below.refl _ wr).alloc (Nat.le_refl _) o) (show wr.heap[q]? =some _ from (B.out.block q S).trans HH.out);rw [Lib.cell_of_heap this];rfl
   have d:=Lib.hid (qJ u l _ wr.heap.size P t (ep HV.out fun g N e _=>ae (by rw [m.out];exact K.out) e) p0 hl);have H:s≤t.heap.size:=by have:=y.size;omega
   have C:=Lib.hid n;clear n y F p0 Y j J
   cases A:l.any (fun r=>decide (r.1=P)) with
   | true=>
    have L:=Lib.hid ((D.out true A).1 rfl);rw [A] at d;clear D A;go_wp2_with fail
    rw [C.out];refine d.out.mono ?_;rintro e w2 ⟨rfl,z⟩;go_wp2_with fail
    exact ⟨⟨k+1,by omega,by go_num,L,Lib.hid (K.out.trans (z.mono H))⟩,by simp [intOf];omega⟩
   | false=>
    have L:=Lib.hid ((D.out false A).2 rfl);rw [A] at d;clear D A;go_wp2_with fail
    rw [C.out];refine d.out.mono ?_;rintro e w2 ⟨rfl,z⟩;go_wp2_with fail
    go_ret;exact ⟨by rw [L.out];rfl,by rw [m.out];exact K.out.trans (z.mono H)⟩
  ·have R:k=f.length:=by omega
   subst R;rw [List.take_length] at J;go_wp2_with fail
   go_ret;exact ⟨by rw [J.out];rfl,by rw [m.out];exact B.out⟩
theorem j8 (d z l:Nat) (q:Nat→Nat) (H n:Value) (S:bp) (a:Nat) (m:List Nat) (w:World) (h:bh d w z l q H S) (C:S.Ok) (D:bg w n m.length 1 (aZ m)) (K:a≤4294967295) (I:1≤m.length) (E:m.length≤255) (Q:S.items.length≤4294967295):
  Calls Tryz.prog 168 #[.pointer (some ⟨z,0,none⟩),.agg #[.int .i64 a,n]] w fun e L=>e= .returned (.bool (bt S a m))∧Below w.heap.size w L:=by
 rw [db I];obtain ⟨b,f⟩:∃b:World,w.alloc (.cells #[.int .i64 a,n] 193)=b:=⟨_,rfl⟩;have p:Below w.heap.size w b:=by rw [←f];exact (Below.refl _ _).alloc (Nat.le_refl _) _
 have o:bh d b z l q H S:=h.keep p;have y:b.heap[w.heap.size]? =some (.cells #[.int .i64 a,n] 193 (0,0)):=by rw [←f];exact heap_alloc_new w _
 have N:b.drew.cell? ⟨z,3,none⟩=some (.map (some l)):=by show b.cell? _=_;rw [Lib.cell_of_heap o.bag];rfl
 have O:b.drew.cell? ⟨w.heap.size,0,none⟩=some (.int .i64 a):=by show b.cell? _=_;rw [Lib.cell_of_heap y];rfl
 have P:b.drew.cell? ⟨w.heap.size,1,none⟩=some n:=by show b.cell? _=_;rw [Lib.cell_of_heap y];rfl
 have c:∀i∈S.live,i < 4294967296:=fun i J=>by have:=bq J;omega
 have s:gh b.drew l q S.live S.items.length:=o.map;have r:=Lib.hid f;have j:=Lib.hid p
 by_cases k:1≤a∧a - 1∈S.live
 ·have B:(Instr.lookup 115 (.map (some l)) (.int .i64 a) true).run Tryz.prog b.drew= .ok (.tuple #[.pointer (some ⟨q (a - 1),0,none⟩),.bool true]) b.drew:=by
   have:=ig (t:=115) (e:=122) fU Tryz.underlying115 s c (a - 1) (by omega) k.2 true;rw [show ((a - 1:Nat):Int)+1=(a:Int) by omega] at this
   exact this
  rw [decide_eq_true k,Bool.true_and];obtain ⟨_,v,x,F,G⟩:=o.mail (a - 1) k.2;have A:=Lib.hid (CK d (q (a - 1)) _ _ _ v n (S.stayOf (a - 1)) m x b.drew F G (D.below p.drew) (by have:=dk C (a - 1);omega) E);clear F G o y p s c D h f;go_enter Tryz.func168,Tryz.ntmps168;go_wp2_with fail
  rw [r.out];go_region
  all_goals
   go_wp2_with fail
   refine A.out.mono ?_;rintro e M ⟨rfl,g⟩;go_wp2_with fail
   go_ret;exact ⟨rfl,j.out.trans ((show Below b.heap.size b M from ⟨g.os,g.tape,g.output,g.size,g.block⟩).mono j.out.size)⟩
 ·have u:a=0∨a - 1 ∉ S.live:=by
   by_cases e:a=0
   ·exact .inl e
   ·exact .inr fun h=>k ⟨by omega,h⟩
  have B:(Instr.lookup 115 (.map (some l)) (.int .i64 a) true).run Tryz.prog b.drew= .ok (.tuple #[.pointer none,.bool false]) b.drew:=by
   by_cases e:a=0
   ·subst e;exact wT (t:=115) (e:=122) fU Tryz.underlying115 (pk _) s c true
   ·have:=rM (t:=115) (e:=122) fU Tryz.underlying115 (pk _) s c (a - 1) (by omega) (u.resolve_left e) true;rw [show ((a - 1:Nat):Int)+1=(a:Int) by omega] at this
    exact this
  rw [decide_eq_false k,Bool.false_and];clear o y p s c D h f u k;go_enter Tryz.func168,Tryz.ntmps168;go_wp2_with fail
  rw [r.out];go_region
  all_goals
   go_wp2_with fail
   go_ret;exact ⟨rfl,j.out.drew⟩
theorem Aj {p:Nat} {w a:World} (h:sc p w.drew a):sc p w a:=⟨h.size,h.block,h.still⟩
theorem pz (d F k:Nat) (q:Nat→Nat) (U J:Value) (S:bp) (K:Nat) (m:List Nat) (w:World) (h:bh d w F k q U S) (a3:S.Ok) (hp:bg w J m.length 1 (aZ m)) (G:K∈S.live) (a4:m.length≤255) (hn:S.items.length≤4294967295):
  Calls Tryz.prog 169 #[.pointer (some ⟨F,0,none⟩),.agg #[.int .i64 ((K:Int)+1),J]] w fun e w'=>∃P,e= .returned P∧w'.ownsRow w.heap.size 9 1 P (dx (S.stayOf K) m).length (cm (dx (S.stayOf K) m))∧bh d w' F k q U (S.outs K m)∧Below d w w':=by
 have a1:=h.le;obtain ⟨f,u⟩:∃f:World,w.alloc (.cells #[.int .i64 ((K:Int)+1),J] 193)=f:=⟨_,rfl⟩;have Q:Below w.heap.size w f:=by rw [←u];exact (Below.refl _ _).alloc (Nat.le_refl _) _
 have L:bh d f F k q U S:=h.keep Q;have N:f.heap[w.heap.size]? =some (.cells #[.int .i64 ((K:Int)+1),J] 193 (0,0)):=by rw [←u];exact heap_alloc_new w _
 have c3:f.drew.cell? ⟨F,3,none⟩=some (.map (some k)):=by show f.cell? _=_;rw [Lib.cell_of_heap L.bag];rfl
 have e0:f.drew.cell? ⟨w.heap.size,0,none⟩=some (.int .i64 ((K:Int)+1)):=by show f.cell? _=_;rw [Lib.cell_of_heap N];rfl
 have e1:f.drew.cell? ⟨w.heap.size,1,none⟩=some J:=by show f.cell? _=_;rw [Lib.cell_of_heap N];rfl
 have p:∀i∈S.live,i < 4294967296:=fun i hi=>by have:=bq hi;omega
 have hM:gh f.drew k q S.live S.items.length:=L.map;have a9:=bq G
 have b0:(Instr.lookup 115 (.map (some k)) (.int .i64 ((K:Int)+1)) false).run Tryz.prog f.drew= .ok (.pointer (some ⟨q K,0,none⟩)) f.drew:=
  ig (t:=115) (e:=122) fU Tryz.underlying115 hM p K (by omega) G false
 obtain ⟨O,v,x,H,hr⟩:=L.mail K G;have W:=Lib.hid (oA d (q K) _ _ _ v J (S.stayOf K) m x f.drew H O hr (hp.below Q.drew) (by have:=dk a3 K;omega) a4);have l:=Lib.hid L;have C:=Lib.hid Q;have Y:=Lib.hid u;have Z:=Lib.hid N;have V:=Lib.hid H;have HL:=Lib.hid p;have a2:q K≠w.heap.size:=fun e=>by unfold dL at H;rw [e,N] at H;simp at H
 clear H hr L N Q hM p hp h u;go_enter Tryz.func169,Tryz.ntmps169;go_wp2_with fail
 rw [Y.out];go_region
 all_goals
  go_wp2_with fail
  refine W.out.mono ?_;rintro e j ⟨P,vs,rfl,z,y,A,n⟩
  obtain ⟨gs,cs,es⟩:∃a c,vs= .slice a (bM (S.stayOf K) m).length c:=by
   rcases A.2 with ⟨e,h0⟩ | ⟨g,a7,a0,e,_⟩
   ·exact ⟨_,_,by rw [h0];exact e⟩
   ·exact ⟨_,_,e⟩
  subst es;have b:sc (q K) f j:=Aj n;have f2:j.cell? ⟨q K,2,none⟩=some (.slice gs (bM (S.stayOf K) m).length cs):=by rw [Lib.cell_of_heap y];rfl
  have D:Hid (Below d w j):=Lib.hid ((C.out.mono a1).trans (b.below O l.out.le))
  by_cases R:bM (S.stayOf K) m=[]
  ·obtain ⟨T,s⟩:=l.out.emptied G b R;have r:(bM (S.stayOf K) m).length=0:=by rw [R];rfl
   have o:∀I:TypeId,(Builtin.delete_ #[115,3] I #[.map (some k),.int .i64 ((K:Int)+1)]).run Tryz.prog j.drew= .ok (.tuple #[]) (ChangeMaps.setBlock j.drew k (.map (cO q (S.live.filter fun i=>decide (i≠K))) S.items.length)):=fun I=>
    Bg (t:=115) (e:=122) fU Tryz.underlying115 (w:=j.drew) (c:=S.items.length) T HL.out (gJ S) K (by omega) G
   have A3:Hid (bh d (ChangeMaps.setBlock j.drew k (.map (cO q (S.live.filter fun i=>decide (i≠K))) S.items.length)) F k q U (S.outs K m)):=Lib.hid ⟨s.bag,s.map,s.pbb,s.mbb,s.one,s.mail⟩;have S3:=gd (w:=j.drew) T (.map (cO q (S.live.filter fun i=>decide (i≠K))) S.items.length);have B:=Lib.hid (ep (w:=j.drew) z.drew fun g a0 e _=>aP S3 e fun e'=>by rw [e'] at e;rw [show j.drew.heap[k]? =_ from T] at e;simp at e);have M:=Lib.hid (D.out.drew.trans (S3.below l.out.mbb));obtain ⟨w3,E⟩:∃w3,ChangeMaps.setBlock j.drew k (.map (cO q (S.live.filter fun i=>decide (i≠K))) S.items.length)=w3:=⟨_,rfl⟩;rw [E] at A3 B M;have a5:∀I:TypeId,(Builtin.delete_ #[115,3] I #[.map (some k),.int .i64 ((K:Int)+1)]).run Tryz.prog j.drew= .ok (.tuple #[]) w3:=fun I=>by rw [o I,E]
   have a6:j.drew.cell? ⟨F,3,none⟩=some (.map (some k)):=by
    show j.cell? _=_;rw [Lib.cell_of_heap (gN b l.out.bag (fun e=>by have:=V.out;unfold dL at this;rw [←e,l.out.bag] at this;simp at this))];rfl
   have a8:j.drew.cell? ⟨w.heap.size,0,none⟩=some (.int .i64 ((K:Int)+1)):=by
    show j.cell? _=_;rw [Lib.cell_of_heap (gN b Z.out (fun e=>a2 e.symm))];rfl
   rw [r] at f2;clear n b y A z s T S3 D r E o;go_wp2_with fail
   go_region
   all_goals
    go_wp2_with fail
    go_ret;exact ⟨P,rfl,B.out.mono (by have:=C.out.size;exact this),A3.out,M.out⟩
  ·have s:=Lib.hid (l.out.left G b y A R)
   have r:(((bM (S.stayOf K) m).length:Int) == 0)=false:=by
    rw [beq_eq_false_iff_ne];intro e;exact R (List.eq_nil_of_length_eq_zero (by omega))
   have X:=Lib.hid z;clear n b y A z;go_wp2_with fail
   go_ret;exact ⟨P,rfl,X.out.mono (by have:=C.out.size;exact this),s.out,D.out⟩
def mL (base pb mb:Nat) (q:Nat→Nat) (vr:Value) (S:bp) (o:Option bp) (w:World) (e:Ending) (w':World):Prop:=
 ((o=none∧e= .returned (.bool false)∧bh base w' pb mb q vr S)∨∃S' q',o=some S'∧e= .returned (.bool true)∧bh base w' pb mb q' vr S')∧Below base w w'
theorem bh.drewN {a c b:Nat} {q:Nat→Nat} {d:Value} {S:bp} {w:World} (h:bh a w c b q d S) (n:Nat):bh a (w.drewN n) c b q d S:=h.keep (bA n _ _)
theorem zA (a l t:Nat) (q:Nat→Nat) (u:Value) (S:bp) (m:aX) (v:Value) (w:World) (h:bh a w l t q u S) (B:Nat) (y:w.ownsRow B 9 1 v m.tos.length (cm m.tos)) (I:dQ m) (H:1≤m.tos.length) (G:S.items.length < 4294967295):
  Calls Tryz.prog 115 #[.pointer (some ⟨l,0,none⟩),.agg (aY m v)] w (mL a l t q u S (S.takesM m) w):=by
 have k:=h.le;obtain ⟨b,c⟩:∃b:World,w.alloc (.cells #[.int .i64 m.id,.int .i64 m.time,.string (bs m.frm),v,.string (bs m.body)] 45)=b:=⟨_,rfl⟩;have r:Below w.heap.size w b:=by rw [←c];exact (Below.refl _ _).alloc (Nat.le_refl _) _
 have p:bh a b l t q u S:=h.keep r;have n:b.heap[w.heap.size]? =some (.cells #[.int .i64 m.id,.int .i64 m.time,.string (bs m.frm),v,.string (bs m.body)] 45 (0,0)):=by rw [←c];exact heap_alloc_new w _
 have L:b.cell? ⟨l,1,none⟩=some (.int .i64 S.time):=by rw [Lib.cell_of_heap p.bag];rfl
 have M:b.cell? ⟨l,2,none⟩=some (.int .i64 S.items.length):=by rw [Lib.cell_of_heap p.bag];rfl
 have N:b.cell? ⟨w.heap.size,0,none⟩=some (.int .i64 m.id):=by rw [Lib.cell_of_heap n];rfl
 have O:b.cell? ⟨w.heap.size,1,none⟩=some (.int .i64 m.time):=by rw [Lib.cell_of_heap n];rfl
 have P:b.cell? ⟨w.heap.size,2,none⟩=some (.string (bs m.frm)):=by rw [Lib.cell_of_heap n];rfl
 have Q:b.cell? ⟨w.heap.size,3,none⟩=some v:=by rw [Lib.cell_of_heap n];rfl
 have R:b.cell? ⟨w.heap.size,4,none⟩=some (.string (bs m.body)):=by rw [Lib.cell_of_heap n];rfl
 have f:=Lib.hid p;have i:=Lib.hid r;have j:=Lib.hid c;have E:=Lib.hid (ep y fun g x e _=>ae r e);have F:=Lib.hid I;unfold aY;clear p n r h c y;have T:IntKind.i64.wrap ((S.items.length:Int)+1)=(S.items.length:Int)+1:=by rw [IntKind.wrap_i64];omega
 by_cases d:m.id=S.items.length+1
 ·by_cases s:S.time≤m.time
  ·have o:Hid (S.takesM m=some (S.plus m)):=Lib.hid (by unfold bp.takesM bp.plus;rw [decide_eq_true d,decide_eq_true s];rfl);have z:((m.id:Int) != (S.items.length:Int)+1)=false:=by rw [d];simp
   have K:¬m.time < S.time:=by omega
   have D:=Lib.hid d;clear d s;go_enter Tryz.func115,Tryz.ntmps115;go_wp2_with fail
   rw [j.out];go_quiet (fail)
   go_wp2_with fail
   refine (tG a l t q u S m v _ (f.out.drewN _) B (ep E.out fun g x e _=>ae (bA _ _ _) e) F.out D.out H G).mono ?_;rintro e U ⟨rfl,J,A,C⟩;go_wp2_with fail
   go_ret;exact ⟨.inr ⟨_,J,o.out,rfl,A⟩,((i.out.mono k).trans (bA _ _ _)).trans C⟩
  ·have o:Hid (S.takesM m=none):=Lib.hid (by unfold bp.takesM;rw [decide_eq_false s,Bool.and_false];rfl);have z:((m.id:Int) != (S.items.length:Int)+1)=false:=by rw [d];simp
   have K:m.time < S.time:=by omega
   clear d s;go_enter Tryz.func115,Tryz.ntmps115;go_wp2_with fail
   rw [j.out];go_quiet (fail)
   go_wp2_with fail
   go_ret;exact ⟨.inl ⟨o.out,rfl,f.out.drewN _⟩,(i.out.mono k).trans (bA _ _ _)⟩
 ·have o:Hid (S.takesM m=none):=Lib.hid (by unfold bp.takesM;rw [decide_eq_false d,Bool.false_and];rfl);have z:((m.id:Int) != (S.items.length:Int)+1)=true:=by rw [bne_iff_ne];omega
  clear d;go_enter Tryz.func115,Tryz.ntmps115;go_wp2_with fail
  rw [j.out];go_quiet (fail)
  go_wp2_with fail
  go_ret;exact ⟨.inl ⟨o.out,rfl,f.out.drewN _⟩,(i.out.mono k).trans (bA _ _ _)⟩
theorem Mv (a j s:Nat) (q:Nat→Nat) (t g:Value) (S:bp) (b:Nat) (f:List Nat) (w:World) (h:bh a w j s q t S) (p:S.Ok) (F:bg w g f.length 1 (aZ f)) (D:b≤4294967295) (L:1≤f.length) (r:f.length≤255) (M:S.items.length≤4294967295):
  Calls Tryz.prog 117 #[.pointer (some ⟨j,0,none⟩),.agg #[.int .i64 b,g]] w (mL a j s q t S (S.takesG b f) w):=by
 have E:=h.le;obtain ⟨i,c⟩:∃i:World,w.alloc (.cells #[.int .i64 b,g] 193)=i:=⟨_,rfl⟩;have k:Below w.heap.size w i:=by rw [←c];exact (Below.refl _ _).alloc (Nat.le_refl _) _
 have u:bh a i j s q t S:=h.keep k;have B:i.heap[w.heap.size]? =some (.cells #[.int .i64 b,g] 193 (0,0)):=by rw [←c];exact heap_alloc_new w _
 have R:∀o:Obj,o= .cells #[.int .i64 b,g] 193→(w.alloc o).cell? ⟨w.heap.size,0,none⟩=some (.int .i64 b):=fun o T=>by rw [T,c,Lib.cell_of_heap B];rfl
 have P:=Lib.hid (j8 a j s q t g S b f i u p (F.below k) D L r M);have l:=Lib.hid u;have v:=Lib.hid k;have z:=Lib.hid c;have A:=Lib.hid B;have x:=Lib.hid (F.below k);clear u k c B F h R;go_enter Tryz.func117,Tryz.ntmps117;go_wp2_with fail
 rw [z.out];refine P.out.mono ?_;rintro e G ⟨rfl,d⟩;have H:=ae d A.out;have W:G.cell? ⟨w.heap.size,0,none⟩=some (.int .i64 b):=by rw [Lib.cell_of_heap H];rfl
 have X:G.cell? ⟨w.heap.size,1,none⟩=some g:=by rw [Lib.cell_of_heap H];rfl
 have I:=Lib.hid (l.out.keep d);have Q:=Lib.hid (x.out.below d);have J:=Lib.hid (((v.out.mono E)).trans (d.mono l.out.le));clear H d
 cases n:bt S b f with
 | false=>
  have y:Hid (S.takesG b f=none):=Lib.hid (by unfold bp.takesG;rw [n];rfl);clear n;go_wp2_with fail
  go_ret;exact ⟨.inl ⟨y.out,rfl,I.out⟩,J.out⟩
 | true=>
  have y:Hid (S.takesG b f=some (S.outs (b - 1) f)):=Lib.hid (by unfold bp.takesG;rw [n];rfl);rw [db L,Bool.and_eq_true,decide_eq_true_eq] at n;obtain ⟨⟨C,m⟩,_⟩:=n;have K:=Lib.hid (pz a j s q t g S (b - 1) f G I.out p Q.out m r M);rw [show ((b - 1:Nat):Int)+1=(b:Int) by omega] at K
  clear C m;go_wp2_with fail
  refine K.out.mono ?_;rintro e V ⟨U,rfl,_,N,O⟩;go_wp2_with fail
  go_ret;exact ⟨.inr ⟨_,q,y.out,rfl,N⟩,J.out.trans O⟩
theorem lX (l:List (List UInt8)) (a:∀t∈l,t.length≤255):(fY l).length≤14+257 * l.length:=by
 unfold fY;rw [List.length_append,show Jq.length=14 from rfl]
 have:(l.flatMap fun t=>[13,10]++t).length≤257 * l.length:=by
  induction l with
  | nil=>simp
  | cons x l ih=>
   have c:=ih fun t b=>a t (by simp [b]);have d:=a x (by simp);rw [List.flatMap_cons,List.length_append,List.length_append];simp only [List.length_cons,List.length_nil];omega
 omega
theorem nQ {a:List (List UInt8)} (b:∀t∈a,t.length≤255) (i:Nat):(a.getD i []).length≤255:=by
 rw [List.getD_eq_getElem?_getD]
 cases h:a[i]? with
 | none=>simp
 | some x=>exact b x (List.mem_of_getElem? h)
theorem jS {S:bp} {c:Nat} {a:List Nat} (d:bF a=true) (b:bt S c a=true):dx (S.stayOf (c - 1)) a=a.map fun i=>(S.mailOf (c - 1)).tos.getD i []:=by
 unfold bt at b;rw [Bool.and_eq_true,List.all_eq_true] at b;unfold dx bp.stayOf;refine DL _ _ _ d fun x e=>?_;have:=b.2 x e;simpa using this
theorem kf {S:bp} {T a:Nat} {b:List Nat} (e:bF b=true) (c:bt S a b=true) (d:S.time≤T):
  ((S.mailOf (a - 1)).frm=[]→S.takesF T a b=some (bp.outs ⟨S.items,T⟩ (a - 1) b))∧
  ((S.mailOf (a - 1)).frm≠[]→S.takesF T a b=some ((bp.outs ⟨S.items,T⟩ (a - 1) b).plus ⟨S.items.length+1,T,[],[(S.mailOf (a - 1)).frm],fY (dx (S.stayOf (a - 1)) b)⟩)):=by
 unfold bp.takesF;rw [c,decide_eq_true d];simp only [Bool.and_true,if_true,bp.failed]
 constructor
 ·intro h;rw [if_pos h];rfl
 ·intro h;rw [if_neg h,jS e c,Bl];simp [bp.plus,bp.outs]
theorem vL (a b p:Nat) (q:Nat→Nat) (E r:Value) (S:bp) (T m:Nat) (d:List Nat) (w:World) (h:bh a w b p q E S) (A:S.Ok) (B:Nat) (hp:w.ownsRow B 3 1 r d.length (aZ d)) (c6:m≤4294967295) (h1:1≤d.length) (a2:d.length≤255) (hr:bF d=true) (hT:T≤1000000000) (hn:S.items.length < 4294967295):
  Calls Tryz.prog 119 #[.pointer (some ⟨b,0,none⟩),.int .i64 T,.agg #[.int .i64 m,r]] w (mL a b p q E S (S.takesF T m d) w):=by
 have c7:=h.le;obtain ⟨J,y⟩:∃J:World,w.alloc (.cells #[.int .i64 m,r] 193)=J:=⟨_,rfl⟩;have B0:Below w.heap.size w J:=by rw [←y];exact (Below.refl _ _).alloc (Nat.le_refl _) _
 have A0:bh a J b p q E S:=h.keep B0;have X0:J.heap[w.heap.size]? =some (.cells #[.int .i64 m,r] 193 (0,0)):=by rw [←y];exact heap_alloc_new w _
 have O0:=ep hp fun g G e _=>ae B0 e;have HM:=Lib.hid (j8 a b p q E r S m d J A0 A (aF O0) c6 h1 a2 (by omega));have Q:=Lib.hid A0;have a6:=Lib.hid B0;have b4:=Lib.hid y;have b6:=Lib.hid X0;have b0:=Lib.hid O0;have c9:b < w.heap.size:=h.pblt;clear A0 B0 y X0 hp h O0;go_enter Tryz.func119,Tryz.ntmps119;go_wp2_with fail
 rw [b4.out];refine HM.out.mono ?_;rintro e I ⟨rfl,n⟩;have x0:=ae n b6.out;have y0:I.cell? ⟨w.heap.size,0,none⟩=some (.int .i64 m):=by rw [Lib.cell_of_heap x0];rfl
 have y1:I.cell? ⟨w.heap.size,1,none⟩=some r:=by rw [Lib.cell_of_heap x0];rfl
 have b7:=Lib.hid x0;have A2:=Q.out.keep n;have c1:I.cell? ⟨b,1,none⟩=some (.int .i64 S.time):=by rw [Lib.cell_of_heap A2.bag];rfl
 have g1:I.frozen? ⟨b,1,none⟩=false:=Lib.frozen_of_heap A2.bag 1;have j:=Lib.hid A2;have O2:=Lib.hid (ep b0.out fun g G e _=>ae n e);have B2:=Lib.hid (((a6.out.mono c7)).trans (n.mono Q.out.le));clear x0 n A2
 cases M:bt S m d with
 | false=>
  have HT:Hid (S.takesF T m d=none):=Lib.hid (by unfold bp.takesF;rw [M];rfl);clear M;go_wp2_with fail
  go_ret;exact ⟨.inl ⟨HT.out,rfl,j.out⟩,B2.out⟩
 | true=>
  by_cases u:S.time≤T
  ·have s:=Lib.hid (kf hr M u);have V:=Lib.hid (jS hr M);rw [db h1,Bool.and_eq_true,decide_eq_true_eq] at M;obtain ⟨⟨c2,k⟩,_⟩:=M;obtain ⟨K,rfl⟩:∃K,m=K+1:=⟨m - 1,by omega⟩
   rw [Nat.add_sub_cancel] at s V k;have c8:¬T < S.time:=by omega
   clear u;go_wp2_with fail
   obtain ⟨f,C⟩:∃f:World,I.setCell ⟨b,1,none⟩ (.int .i64 T)=f:=⟨_,rfl⟩;rw [C];have Y:aL b I f:=by rw [←C];exact (aL.refl _ _).setCell _
   have P3:f.heap[b]? =some (.cells #[E,.int .i64 T,.int .i64 S.items.length,.map (some p)] 117 (0,0)):=by
    rw [←C];exact heap_setCell_same I b 1 _ _ (.int .i64 T) j.out.bag
   have O:bh a f.drew b p q E ⟨S.items,T⟩:=(j.out.timed Y P3).keep ((Below.refl _ _).drew);have X3:f.drew.heap[w.heap.size]? =some (.cells #[.int .i64 ((K:Int)+1),r] 193 (0,0)):=aP Y b7.out (by omega);have O3:f.drew.ownsRow B 3 1 r d.length (aZ d):=ep O2.out fun g G e _=>aP Y e fun e'=>by rw [e',j.out.bag] at e;simp at e
   have c3:f.drew.cell? ⟨b,3,none⟩=some (.map (some p)):=by rw [Lib.cell_of_heap O.bag];rfl
   have z0:f.drew.cell? ⟨w.heap.size,0,none⟩=some (.int .i64 ((K:Int)+1)):=by rw [Lib.cell_of_heap X3];rfl
   have z1:f.drew.cell? ⟨w.heap.size,1,none⟩=some r:=by rw [Lib.cell_of_heap X3];rfl
   have a0:=bq k
   have d2:(Instr.lookup 115 (.map (some p)) (.int .i64 ((K:Int)+1)) false).run Tryz.prog f.drew= .ok (.pointer (some ⟨q K,0,none⟩)) f.drew:=
    ig (t:=115) (e:=122) fU Tryz.underlying115 O.map (fun i hi=>by have:=bq hi;simp only at this;omega) K (by omega) k false
   obtain ⟨_,v,_,hb,_⟩:=O.mail K k;have m1:f.drew.cell? ⟨q K,1,none⟩=some (.string (bs (S.mailOf K).frm)):=by rw [Lib.cell_of_heap hb];rfl
   have a9:=Lib.hid (pz a b p q E r ⟨S.items,T⟩ K d f.drew O (A.time T) (aF O3) k a2 (by show S.items.length≤_;omega));have c0:=Lib.hid (B2.out.trans ((Y.below j.out.pbb).drew));have X:Hid (dQ (S.mailOf K)):=Lib.hid (by rw [kd a0];exact (A.sz _ (List.getElem_mem a0)).1);have b2:=Lib.hid (dk A K);clear C Y P3 O X3 O3 hb y0 y1 c1 g1 c2 k;obtain ⟨F,eF⟩:∃F,(S.mailOf K).frm=F:=⟨_,rfl⟩;rw [eF] at m1 s;go_region
   all_goals
    go_wp2_with fail
    refine a9.out.mono ?_;rintro e c ⟨vn,rfl,a3,P,B4⟩;have b8:=P.le
    have c4:c.drew.cell? ⟨b,2,none⟩=some (.int .i64 (S.items.length:Int)):=by
     show c.cell? _=_;rw [Lib.cell_of_heap P.bag,bL];rfl
    have c5:∀o:Obj,(c.alloc o).cell? ⟨b,2,none⟩=some (.int .i64 (S.items.length:Int)):=fun o=>by
     have:=ae ((Below.refl _ c).alloc (Nat.le_refl _) o) P.bag;rw [Lib.cell_of_heap this,bL];rfl
    have b3:=Lib.hid a3;have R:=Lib.hid P;have U:=Lib.hid (c0.out.trans B4);clear a3 P B4
    by_cases H:F=[]
    ·have tF:(bs F).toList.isEmpty=true:=by rw [Lib.toList_data,H];rfl
     have HR:=Lib.hid (s.out.1 H);clear H;go_wp2_with fail
     go_ret;exact ⟨.inr ⟨_,q,HR.out,rfl,R.out⟩,U.out⟩
    ·have tF:(bs F).toList.isEmpty=false:=by
      rw [Lib.toList_data]
      cases F with
      | nil=>exact absurd rfl H
      | cons x l=>rfl
     have HR:=Lib.hid (s.out.2 H);have d3:IntKind.i64.wrap ((S.items.length:Int)+1)=(S.items.length:Int)+1:=by rw [IntKind.wrap_i64];omega
     obtain ⟨N,Z⟩:∃N,dx (S.stayOf K) d=N:=⟨_,rfl⟩;have d0:N.length≤10:=by rw [←Z];have:=mV (S.stayOf K) d;have:=b2.out;omega
     have a1:∀t∈N,t.length≤255:=by
      intro t ht;rw [←Z,V.out,List.mem_map] at ht;obtain ⟨i,_,rfl⟩:=ht;exact nQ X.out.2.2.2.2.1 i
     have d1:=lX N a1;have D:c.ownsRow f.drew.heap.size 9 1 vn N.length (cm N):=by rw [←Z];exact b3.out
     have b1:Hid (∀W:World,Below c.heap.size c W→Calls Tryz.prog 170 #[vn] W fun e w'=>e= .returned (.string (bs (fY N)))∧W=w'):=Lib.hid (fun W hW=>nB N vn W (aF (ep D fun g G e _=>ae hW e)) (by omega) a1);obtain ⟨L,z⟩:∃L:World,(c.alloc (.cells #[.string (bs F)] 9)).drew=L:=⟨_,rfl⟩;have B5:Below c.heap.size c L:=by rw [←z];exact ((Below.refl _ _).alloc (Nat.le_refl _) _).drew
     have X5:L.heap[c.heap.size]? =some (.cells #[.string (bs F)] 9 (0,0)):=by rw [←z];exact heap_alloc_new c _
     have O5:L.ownsRow c.heap.size 9 1 (.slice (some ⟨c.heap.size,0,none⟩) 1 1) 1 (cm [F]):=
      ⟨rfl,.inr ⟨c.heap.size,1,_,rfl,Nat.le_refl _,X5,Nat.le_refl _,by unfold maxLen;omega,rfl,rfl⟩⟩
     have a5:=Lib.hid (tG a b p q E (bp.outs ⟨S.items,T⟩ K d) ⟨S.items.length+1,T,[],[F],fY N⟩ (.slice (some ⟨c.heap.size,0,none⟩) 1 1) L (R.out.keep B5) c.heap.size O5
      ⟨by show S.items.length+1≤_;omega,by show T≤_;omega,by simp,by simp,fun t ht=>by simp at ht;subst ht;rw [←eF];exact X.out.2.2.1,by show (fY N).length≤_;omega⟩ (by rw [bL]) (by simp) (by rw [bL];exact hn))
     have a7:=Lib.hid (U.out.trans (B5.mono b8));have b5:=Lib.hid z;have HF:=Lib.hid H;rw [Z] at HR;clear H eF B5 X5 O5 D z Z;go_wp2_with fail
     go_region_law (first
      | (go_simp;go_at_call 170;refine (b1.out _ (by first | exact (Below.refl _ _).drew | exact ((Below.refl _ _).alloc (Nat.le_refl _) _).drew | exact ((Below.refl _ _).drew).alloc (Nat.le_refl _) _)).mono ?_;rintro e w5 ⟨rfl,rfl⟩)
      | (go_simp;go_at_call 166;rw [b5.out];refine a5.out.mono ?_;rintro e w6 ⟨rfl,q',A6,B6⟩;have a4:=Lib.hid A6;have a8:=Lib.hid B6;clear A6 B6))
     all_goals
      go_wp2_with fail
      go_ret;exact ⟨.inr ⟨_,_,HR.out,rfl,a4.out⟩,a7.out.trans a8.out⟩
  ·have HT:Hid (S.takesF T m d=none):=Lib.hid (by unfold bp.takesF;rw [decide_eq_false u,Bool.and_false];rfl);have c8:T < S.time:=by omega
   clear u;go_wp2_with fail
   go_ret;exact ⟨.inl ⟨HT.out,rfl,j.out⟩,B2.out⟩
theorem oD {l:List UInt8} {m:aX} (h:bP l=some m):dr m=true:=by
 unfold bP at h
 split at h
 ·cases h
 ·split at h
  ·rw [Option.bind_eq_some_iff] at h;obtain ⟨a,_,h⟩:=h
   split at h
   ·cases h;assumption
   ·cases h
  ·cases h
theorem rL {m:aX} (h:dr m=true):1≤m.tos.length∧m.tos.length≤10:=by
 unfold dr iH at h;simp only [Bool.and_eq_true,decide_eq_true_eq] at h;exact ⟨h.1.2.1.1,h.1.2.1.2⟩
theorem uE {l:List UInt8} {x:Nat×List Nat} (h:dq l=some x):bF x.2=true:=by
 unfold dq at h;rw [Option.bind_eq_some_iff] at h;obtain ⟨a,_,h⟩:=h
 split at h
 ·rename_i b
  rw [Bool.and_eq_true] at b
  cases h
  exact b.2
 ·cases h
theorem qt {l:List UInt8} {T d:Nat} {b:List Nat} (h:bS l=some (T,d,b)):bF b=true:=by
 unfold bS at h
 split at h
 ·cases h
 ·split at h
  ·rw [Option.bind_eq_some_iff] at h;obtain ⟨a,_,h⟩:=h;rw [Option.bind_eq_some_iff] at h;obtain ⟨x,c,h⟩:=h
   split at h
   ·cases h;exact uE c
   ·cases h
  ·cases h
theorem Kx {S b:bp} {m:aX} (a:S.Ok) (e:dQ m) (d:1≤m.tos.length∧m.tos.length≤10) (h:S.takesM m=some b):b.Ok:=by
 unfold bp.takesM at h
 split at h
 ·rename_i c
  rw [Bool.and_eq_true,decide_eq_true_eq] at c
  cases h
  exact a.plus c.1 e d.1 d.2
 ·cases h
theorem Kv {S b:bp} {c:Nat} {d:List Nat} (a:S.Ok) (h:S.takesG c d=some b):b.Ok:=by
 unfold bp.takesG at h
 split at h
 ·cases h;exact a.outs _ _
 ·cases h
theorem Ku {S g:bp} {T a:Nat} {c:List Nat} (b:S.Ok) (l:bF c=true) (q:T≤1000000000) (u:S.items.length < 4294967295) (h:S.takesF T a c=some g):g.Ok:=by
 have d:bt S a c=true∧S.time≤T:=by
  unfold bp.takesF at h
  split at h
  ·rename_i d
   rwa [Bool.and_eq_true,decide_eq_true_eq] at d
  ·cases h
 obtain ⟨o,p⟩:=kf l d.1 d.2;have k:bp.Ok (bp.outs ⟨S.items,T⟩ (a - 1) c):=(b.time T).outs _ _
 by_cases j:(S.mailOf (a - 1)).frm=[]
 ·rw [o j] at h;cases h;exact k
 ·rw [p j] at h
  cases h
  have e:a - 1 < S.items.length:=by
   have:=d.1;unfold bt at this;simp only [Bool.and_eq_true,decide_eq_true_eq] at this;omega
  have m:dQ (S.mailOf (a - 1)):=by rw [kd e];exact (b.sz _ (List.getElem_mem e)).1
  have s:(dx (S.stayOf (a - 1)) c).length≤10:=by have:=mV (S.stayOf (a - 1)) c;have:=dk b (a - 1);omega
  have n:∀t∈dx (S.stayOf (a - 1)) c,t.length≤255:=by
   intro t f;rw [jS l d.1,List.mem_map] at f;obtain ⟨i,_,rfl⟩:=f;exact nQ m.2.2.2.2.1 i
  have r:=lX _ n;refine k.plus (by rw [bL]) ⟨by show S.items.length+1≤_;omega,by show T≤_;omega,by simp,by simp,fun t f=>by simp at f;subst f;exact m.2.2.1,by show (fY _).length≤_;omega⟩ (by simp) (by simp)
theorem kj {w:World} {b i n:Nat} {e:TypeId} {v:Value} {j:List Value} (h:w.ownsRow b e i v n j):∃a m c,v= .slice a m c:=by
 rcases h.2 with ⟨e,_⟩ | ⟨g,d,f,e,_⟩
 ·exact ⟨_,_,_,e⟩
 ·exact ⟨_,_,_,e⟩
theorem Ac (j K W:Nat) (q:Nat→Nat) (vr:Value) (S:bp) (l:List UInt8) (n:Int) (w:World) (h:bh j w K W q vr S) (u:S.Ok) (hl:l.length≤536870912) (hm:w.cell? ⟨0,0,none⟩=some (.int .i64 n)) (hn:S.items.length < 4294967295):
  Calls Tryz.prog 75 #[.pointer (some ⟨K,0,none⟩),.string (bs l)] w fun e w'=>mL j K W q vr S (S.takes l) w e w'∧∀c,S.takes l=some c→c.Ok:=by
 have V:=h.le;have HH:=Lib.hid h;have o:=Lib.hid (mj S l);have HM:=Lib.hid (ka l n w hl hm);clear h hm;go_enter Tryz.func75,Tryz.ntmps75;go_wp2_with fail
 refine HM.out.mono ?_;rintro e w1 ⟨b,E⟩;have L:=Lib.hid (HH.out.keep E);have B1:=Lib.hid E;clear E
 rcases b with ⟨d,rfl⟩ | ⟨J,v,d,rfl,z,hz⟩
 ·rw [d] at o;simp only [aY,lf];clear d;go_wp2_with fail
  refine (ma l _ hl).mono ?_;rintro e w3 ⟨b,F⟩;have M:=Lib.hid ((L.out.keep ((Below.refl _ _).alloc (Nat.le_refl _) _)).keep F);have N:=Lib.hid (((B1.out.mono V).alloc L.out.le _).trans (F.mono (Nat.le_trans L.out.le (by simp))));clear F
  rcases b with ⟨d,rfl⟩ | ⟨I,Y,v,d,rfl,z,s,x,y,H⟩
  ·rw [d] at o;clear d;go_wp2_with fail
   refine (nA l _ hl).mono ?_;rintro e w5 ⟨b,G⟩;have A5:=Lib.hid ((M.out.keep ((Below.refl _ _).alloc (Nat.le_refl _) _)).keep G);have O:=Lib.hid ((N.out.alloc M.out.le _).trans (G.mono (Nat.le_trans M.out.le (by simp))));clear G
   rcases b with ⟨d,rfl⟩ | ⟨T,I,Y,v,d,rfl,⟨z,s,x,y,H⟩,hT⟩
   ·rw [d] at o;have a:Hid (S.takes l=none):=Lib.hid o.out;clear d o;go_wp2_with fail
    go_ret;exact ⟨⟨.inl ⟨a.out,rfl,A5.out.keep ((Below.refl _ _).alloc (Nat.le_refl _) _)⟩,O.out.alloc A5.out.le _⟩,fun c A=>by rw [a.out] at A;cases A⟩
   ·have m:=qt d;rw [d] at o;have a:Hid (S.takes l=S.takesF T I Y):=Lib.hid o.out;obtain ⟨Q,X,U,rfl⟩:=kj z;obtain ⟨W6,D⟩:∃W6:World,w5.alloc (.cells #[.int .i64 I,.slice Q X U] 193)=W6:=⟨_,rfl⟩;have B6:Below w5.heap.size w5 W6:=by rw [←D];exact (Below.refl _ _).alloc (Nat.le_refl _) _
    have P:=Lib.hid (vL j K W q vr _ S T I Y W6 (A5.out.keep B6) u _ (ep z fun g R e _=>ae B6 e) s x y m hT hn);have a2:=Lib.hid (O.out.trans (B6.mono A5.out.le));have i:Hid (∀c,S.takes l=some c→c.Ok):=Lib.hid (fun c A=>Ku u m hT hn (by rw [←a.out];exact A));have a5:=Lib.hid D;clear d o B6 D z s x y H m hT;go_wp2_with fail
    rw [a5.out];refine P.out.mono ?_;rintro e w7 ⟨b,k⟩;have f:=Lib.hid (a2.out.trans k);clear k
    rcases b with ⟨p,rfl,r⟩ | ⟨c,Z,p,rfl,r⟩
    ·go_wp2_with fail
     go_ret;exact ⟨⟨.inl ⟨a.out.trans p,rfl,r⟩,f.out⟩,i.out⟩
    ·go_wp2_with fail
     go_ret;exact ⟨⟨.inr ⟨c,Z,a.out.trans p,rfl,r⟩,f.out⟩,i.out⟩
  ·rw [d] at o;have a:Hid (S.takes l=S.takesG I Y):=Lib.hid o.out;obtain ⟨Q,X,U,rfl⟩:=kj z;obtain ⟨W4,C⟩:∃W4:World,w3.alloc (.cells #[.int .i64 I,.slice Q X U] 193)=W4:=⟨_,rfl⟩;have B4:Below w3.heap.size w3 W4:=by rw [←C];exact (Below.refl _ _).alloc (Nat.le_refl _) _
   have P:=Lib.hid (Mv j K W q vr _ S I Y W4 (M.out.keep B4) u (aF (ep z fun g R e _=>ae B4 e)) s x y (by omega));have a1:=Lib.hid (N.out.trans (B4.mono M.out.le));have i:Hid (∀c,S.takes l=some c→c.Ok):=Lib.hid (fun c A=>Kv u (by rw [←a.out];exact A));have a4:=Lib.hid C;clear d o B4 C z s x y H;go_wp2_with fail
   rw [a4.out];refine P.out.mono ?_;rintro e w7 ⟨b,k⟩;have f:=Lib.hid (a1.out.trans k);clear k
   rcases b with ⟨p,rfl,r⟩ | ⟨c,Z,p,rfl,r⟩
   ·go_wp2_with fail
    go_ret;exact ⟨⟨.inl ⟨a.out.trans p,rfl,r⟩,f.out⟩,i.out⟩
   ·go_wp2_with fail
    go_ret;exact ⟨⟨.inr ⟨c,Z,a.out.trans p,rfl,r⟩,f.out⟩,i.out⟩
 ·rw [d] at o;have a:Hid (S.takes l=S.takesM J):=Lib.hid o.out;have t:=rL (oD d);obtain ⟨Q,X,U,rfl⟩:=kj z;obtain ⟨W2,B⟩:∃W2:World,w1.alloc (.cells #[.int .i64 J.id,.int .i64 J.time,.string (bs J.frm),.slice Q X U,.string (bs J.body)] 45)=W2:=⟨_,rfl⟩;have B2:Below w1.heap.size w1 W2:=by rw [←B];exact (Below.refl _ _).alloc (Nat.le_refl _) _
  have P:=Lib.hid (zA j K W q vr S J _ W2 (L.out.keep B2) _ (ep z fun g R e _=>ae B2 e) hz t.1 hn);have a0:=Lib.hid ((B1.out.mono V).trans (B2.mono L.out.le));have i:Hid (∀c,S.takes l=some c→c.Ok):=Lib.hid (fun c A=>Kx u hz t (by rw [←a.out];exact A));have a3:=Lib.hid B;simp only [aY];clear d t B2 B z hz o;go_wp2_with fail
  rw [a3.out];refine P.out.mono ?_;rintro e w7 ⟨b,k⟩;have f:=Lib.hid (a0.out.trans k);clear k
  rcases b with ⟨p,rfl,r⟩ | ⟨c,Z,p,rfl,r⟩
  ·go_wp2_with fail
   go_ret;exact ⟨⟨.inl ⟨a.out.trans p,rfl,r⟩,f.out⟩,i.out⟩
  ·go_wp2_with fail
   go_ret;exact ⟨⟨.inr ⟨c,Z,a.out.trans p,rfl,r⟩,f.out⟩,i.out⟩
theorem jg {l:List Nat} (h:l.Pairwise (·< ·)):bF l=true:=by
 unfold bF lh;rw [List.all_eq_true];intro k a;have a:=List.mem_range.1 a
 by_cases e:k=0
 ·rw [decide_eq_true e];rfl
 ·rw [Bool.or_eq_true]
  right
  rw [decide_eq_true_eq,List.getD_eq_getElem?_getD,List.getD_eq_getElem?_getD,List.getElem?_eq_getElem a,List.getElem?_eq_getElem (show k - 1 < l.length by omega)];exact (List.pairwise_iff_getElem.1 h) (k - 1) k (by omega) a (by omega)
theorem Dd {S:bp} {i:Nat} {a:List Nat} (b:i∈S.live) (c:1≤a.length) (h:∀x∈a,x∈(S.stayOf i).map (·.1)):bt S (i+1) a=true:=by
 rw [db c,Bool.and_eq_true,decide_eq_true_eq,Nat.add_sub_cancel,List.all_eq_true];refine ⟨⟨by omega,b⟩,fun x f=>?_⟩
 obtain ⟨r,d,e⟩:=List.mem_map.1 (h x f);exact List.any_eq_true.2 ⟨r,d,by simpa using e⟩
structure DY (i:Nat) (S S':bp):Prop where
 len:S.items.length≤S'.items.length
 time:S'.time=S.time
 mail:∀j,j < S.items.length→S'.mailOf j=S.mailOf j
 stay:∀j,j < S.items.length→j≠i→S'.stayOf j=S.stayOf j
theorem DY.refl (i:Nat) (S:bp):DY i S S:=⟨Nat.le_refl _,rfl,fun _ _=>rfl,fun _ _ _=>rfl⟩
theorem DY.trans {i:Nat} {S d a:bp} (h:DY i S d) (c:DY i d a):DY i S a:=
 ⟨Nat.le_trans h.len c.len,c.time.trans h.time,fun j b=>(c.mail j (Nat.lt_of_lt_of_le b h.len)).trans (h.mail j b),fun j b e=>(c.stay j (Nat.lt_of_lt_of_le b h.len) e).trans (h.stay j b e)⟩
theorem uT (S:bp) (i:Nat) (a:List Nat):DY i S (S.outs i a):=⟨by rw [bL];exact Nat.le_refl _,rfl,fun j _=>mo S i a j,fun j _ b=>il b⟩
theorem Il (i:Nat) (S:bp) (m:aX) (b:m.time=S.time):DY i S (S.plus m):=⟨by rw [dv];omega,b,fun j a=>je a,fun j a _=>jU a⟩
def xu (m:aX):Prop:=m.frm=[]∧m.tos.length=1∧∃N,N≠[]∧m.body=fY N
theorem CE {S:bp} {i:Nat} {a:List Nat} (b:S.Ok) (A:S.items.length < 4294967295) (y:S.time≤1000000000) (x:1≤a.length) (p:bF a=true) (n:bt S (i+1) a=true):
  ∃d,S.takesF S.time (i+1) a=some d∧d.Ok∧DY i S d∧(i < S.items.length∧d.stayOf i=bM (S.stayOf i) a)∧∀j,S.items.length≤j→j < d.items.length→xu (d.mailOf j):=by
 have h:=kf p n (Nat.le_refl S.time);have k:=jS p n;have f:=n;rw [db x,Bool.and_eq_true,decide_eq_true_eq,Nat.add_sub_cancel] at f;obtain ⟨⟨_,w⟩,z⟩:=f;have c:=bq w;rw [Nat.add_sub_cancel] at h k;have r:(bp.outs ⟨S.items,S.time⟩ i a)=S.outs i a:=rfl;rw [r] at h;have q:dQ (S.mailOf i):=by rw [kd c];exact (b.sz _ (List.getElem_mem c)).1
 by_cases o:(S.mailOf i).frm=[]
 ·refine ⟨_,h.1 o,b.outs i a,uT S i a,⟨c,jc c⟩,fun j s l=>?_⟩;rw [bL] at l;omega
 ·have m:∀t∈dx (S.stayOf i) a,t.length≤255:=by
   intro t g;rw [k,List.mem_map] at g;obtain ⟨j,_,rfl⟩:=g;exact nQ q.2.2.2.2.1 j
  have u:(dx (S.stayOf i) a).length≤10:=by have:=mV (S.stayOf i) a;have:=dk b i;omega
  have v:=lX _ m;refine ⟨_,h.2 o,(b.outs i a).plus (by rw [bL]) ⟨by show S.items.length+1≤_;omega,by show S.time≤_;omega,by simp,by simp,fun t g=>by simp at g;rw [g];exact q.2.2.1,by show (fY _).length≤_;omega⟩ (by simp) (by simp),(uT S i a).trans (Il i _ _ rfl),⟨c,?_⟩,fun j s l=>?_⟩
  ·rw [jU (by rw [bL];exact c),jc c]
  ·rw [dv,bL] at l;obtain rfl:j=(S.outs i a).items.length:=by rw [bL];omega
   rw [dN];refine ⟨rfl,rfl,_,?_,rfl⟩;rw [k];intro e;have:=congrArg List.length e;rw [List.length_map,List.length_nil] at this;omega
def i7 (x:bp×List UInt8) (i:Nat) (ps:List Nat):bp×List UInt8:=if ps=[] then x else (x.1.outs i ps,x.2++bJ (71::aM (i+1) ps))
def jr (x:bp×List UInt8) (i:Nat) (ps:List Nat):bp×List UInt8:=if ps=[] then x else ((x.1.takesF x.1.time (i+1) ps).getD x.1,x.2++bJ (70::(az 4 x.1.time++aM (i+1) ps)))
def kR (x:bp×List UInt8) (i:Nat) (gs fs:List Nat):bp×List UInt8:=jr (i7 x i gs) i fs
structure oK (x:bp×List UInt8):Prop where
 ok:x.1.Ok
 led:zP x.1 x.2
 time:x.1.time≤1000000000
structure Left (x y:bp×List UInt8) (i:Nat) (ps:List Nat):Prop where
 ok:oK y
 aft:DY i x.1 y.1
 stay:y.1.stayOf i=bM (x.1.stayOf i) ps
 new:∀j,x.1.items.length≤j→j < y.1.items.length→xu (y.1.mailOf j)
theorem BO (l:List (Nat×List UInt8)):bM l []=l:=by unfold bM;simp
theorem Left.none {x:bp×List UInt8} (h:oK x) (i:Nat):Left x x i []:=⟨h,DY.refl _ _,(BO _).symm,fun j a b=>by omega⟩
theorem EX {x:bp×List UInt8} (h:oK x) {i:Nat} {a:List Nat} (c:a.length≤100) (b:a≠[]→bt x.1 (i+1) a=true):Left x (i7 x i a) i a:=by
 unfold i7
 split
 ·rename_i e;subst e;exact Left.none h i
 ·rename_i e
  have f:1≤a.length:=List.length_pos_iff.2 e;have b:=b e;have g:=Bu f b;rw [Nat.add_sub_cancel] at g;have k:1≤(if (x.1.mailOf i).frm=[] then 1 else 2):=by split <;> omega
  have m:=bL x.1 i a;rw [db f,Bool.and_eq_true,decide_eq_true_eq,Nat.add_sub_cancel] at b
  exact ⟨⟨h.ok.outs i a,h.led.less (by show (x.1.outs i a).pot+1≤_;omega) (by show (x.1.outs i a).items.length+(x.1.outs i a).pot≤_;omega) (pM (T:=0) c).1,h.time⟩,uT _ _ _,jc (bq b.1.2),fun j l d=>by
   have d:j < (x.1.outs i a).items.length:=d
   omega⟩
theorem nP {x:bp×List UInt8} (h:oK x) {i:Nat} {a:List Nat} (b:a.length≤100) (o:bF a=true) (n:a≠[]→bt x.1 (i+1) a=true):Left x (jr x i a) i a∧(a≠[]→x.1.takesF x.1.time (i+1) a=some (jr x i a).1):=by
 unfold jr
 split
 ·rename_i e;subst e;exact ⟨Left.none h i,fun e=>absurd rfl e⟩
 ·rename_i e
  have f:1≤a.length:=List.length_pos_iff.2 e;obtain ⟨j,c,k,d,l,m⟩:=CE h.ok (by have:=h.led.items;omega) h.time f o (n e);have g:=ya f c;rw [c,Option.getD_some];exact ⟨⟨⟨k,h.led.less g.1 g.2.1 (pM b).2,by show j.time≤_;rw [d.time];exact h.time⟩,d,l.2,m⟩,fun _=>rfl⟩
theorem kS {x:bp×List UInt8} (h:oK x) {i:Nat} {gs fs:List Nat} (s:i∈x.1.live) (d:gs.length≤100) (c:fs.length≤100) (f:bF fs=true) (q:∀p∈gs,p∈(x.1.stayOf i).map (·.1)) (o:∀p∈fs,p∈(x.1.stayOf i).map (·.1)) (n:∀p∈gs,p ∉ fs):
  (gs≠[]→bt x.1 (i+1) gs=true)∧Left x (i7 x i gs) i gs∧(fs≠[]→bt (i7 x i gs).1 (i+1) fs=true)∧Left (i7 x i gs) (kR x i gs fs) i fs∧(fs≠[]→(i7 x i gs).1.takesF (i7 x i gs).1.time (i+1) fs=some (kR x i gs fs).1):=by
 have k:gs≠[]→bt x.1 (i+1) gs=true:=fun e=>Dd s (List.length_pos_iff.2 e) q;have g:=EX h d k
 have m:fs≠[]→bt (i7 x i gs).1 (i+1) fs=true:=fun e=>by
  have j:∀p∈fs,p∈((i7 x i gs).1.stayOf i).map (·.1):=fun p b=>by
   rw [g.stay];obtain ⟨r,f,e⟩:=List.mem_map.1 (o p b);refine List.mem_map.2 ⟨r,List.mem_filter.2 ⟨f,?_⟩,e⟩;rw [Bool.not_eq_true',←Bool.not_eq_true];intro a;rw [e] at a;exact n p (List.contains_iff_mem.1 a) b
  refine Dd (zo fun a=>?_) (List.length_pos_iff.2 e) j
  obtain ⟨p,b⟩:∃p,p∈fs:=by
   cases fs with
   | nil=>exact absurd rfl e
   | cons p l=>exact ⟨p,by simp⟩
  have:=j p b;rw [a] at this
  cases this
 obtain ⟨t,u⟩:=nP g.ok c f m;exact ⟨k,g,m,t,u⟩
end Go.Proofs.YtofpegbpgkkgkaaGreatDoor
