import Derived.Test.YtofpegbpgkkgkaaGreatDoorS07
import Derived.Test.YtofpegbpgkkgkaaGreatDoorS10
namespace Go.Proofs.YtofpegbpgkkgkaaGreatDoor
set_option maxHeartbeats 8000000
set_option maxRecDepth 1000000
open Go.RowKit
def Ka (w w':World) (id:Nat) (ps:List Nat) (v:Value):Prop:=w'.ownsRow w.heap.size 3 1 v ps.length (aZ ps)∧id≤4294967295∧1≤ps.length∧ps.length≤255∧∀x∈ps,x≤255
def yv (l:List UInt8) (w:World) (e:Ending) (w':World):Prop:=
 (dh l=none∧e= .returned (.tuple #[.agg #[.int .i64 0,.slice none 0 0],.bool false])∨∃id ps v,dh l=some (id,ps)∧e= .returned (.tuple #[.agg #[.int .i64 (id:Nat),v],.bool true])∧Ka w w' id ps v)∧Below w.heap.size w w'
def tz (l:List UInt8) (w:World) (e:Ending) (w':World):Prop:=
 (bS l=none∧e= .returned (.tuple #[.int .i64 0,.agg #[.int .i64 0,.slice none 0 0],.bool false])∨∃T id ps v,bS l=some (T,id,ps)∧e= .returned (.tuple #[.int .i64 (T:Nat),.agg #[.int .i64 (id:Nat),v],.bool true])∧Ka w w' id ps v∧T≤1000000000)∧Below w.heap.size w w'
theorem yn {w b:World} {s:Nat} {l:List UInt8} (c:w.heap.size=s) (d:l.length≤536870912) (a:(w.alloc (.cells #[.int .i64 0,.slice none 0 0] 193)).alloc (.cells #[.string (bs l),.bool false] 187)=b):
  gG b (s+1) (some l)∧oe b s 0 (.slice none 0 0)∧Below s w b∧b.heap.size=s+2:=by
 refine ⟨⟨by rw [←a,←c];have:=heap_alloc_new (w.alloc (.cells #[.int .i64 0,.slice none 0 0] 193)) (.cells #[.string (bs l),.bool false] 187);simpa using this,by unfold maxLen;omega⟩,?_,?_,?_⟩
 ·unfold oe;rw [←a,←c,((Below.refl (w.alloc (.cells #[.int .i64 0,.slice none 0 0] 193)).heap.size _).alloc (Nat.le_refl _) _).block w.heap.size (by simp)];exact heap_alloc_new w _
 ·rw [←a];exact ((Below.refl _ _).alloc (by omega) _).alloc (by simp;omega) _
 ·rw [←a,←c];simp
theorem nX {s k j n:Nat} {u:World} {v x:Value} {a:List Value} (h:u.ownsRow (s+2) 3 1 v n a) (b:k < s+2):(u.setCell ⟨k,j,none⟩ x).ownsRow (s+2) 3 1 v n a:=dJ h (show aL k u _ from (aL.refl _ _).setCell _) b
theorem ma (l:List UInt8) (w:World) (hl:l.length≤536870912):Calls Tryz.prog 116 #[.string (bs l)] w (yv l w):=by
 have sl:=aG l;obtain ⟨s,hs⟩:∃s,w.heap.size=s:=⟨_,rfl⟩;obtain ⟨M,z⟩:∃M:World,(w.alloc (.cells #[.int .i64 0,.slice none 0 0] 193)).alloc (.cells #[.string (bs l),.bool false] 187)=M:=⟨_,rfl⟩;obtain ⟨Q,T,O,U⟩:=yn hs hl z;have j:=iY (s+1) 1 (some l) M Q (by decide);have x:=Lib.hid z;have n:=Lib.hid hs;have m:=Lib.hid T;have k:=Lib.hid O;have E:=Lib.hid U;clear z Q T O U
 by_cases f:l.take 1=[71]
 ·obtain ⟨r,Z⟩:∃r,l.drop 1=r:=⟨_,rfl⟩;have S:Hid (l=71::r):=Lib.hid (by rw [←List.take_append_drop 1 l,f,Z];rfl);have W:(some l).bind (bm 1)=some ([71],r):=by show bm 1 l=_;rw [S.out];rfl
  have b:Hid (dh l=dq r):=Lib.hid (by rw [S.out];unfold dh;simp only;rw [if_pos trivial]);rw [W] at j;have m1:((bs (gK (some ([71],r)))).toList == [71])=true:=by show ((bs [71]).toList == [71])=true;rw [qM];rfl
  have d:=Lib.hid j;clear j W Z f;go_enter Tryz.func116,Tryz.ntmps116;go_wp2_with fail
  rw [x.out];refine d.out.mono ?_;rintro e p ⟨rfl,B,i⟩;have R:gG p (s+1) (some r):=B;have o:oe p s 0 (.slice none 0 0):=(i.2 s (by omega)).trans m.out;have P:=k.out.trans (i.below (by omega));have V:p.heap.size=s+2:=i.1.trans E.out;have D:=Lib.hid (rH (s+1) (some r) p R (by omega));have L:=Lib.hid o;have q:=Lib.hid P;have y:=Lib.hid V;clear B i R o P V d m k E x;go_wp2_with fail
  refine D.out.mono ?_;rintro e K ⟨A,h⟩;have F:oe K s 0 (.slice none 0 0):=(h.block s (by have:=y.out;omega) (by omega)).trans L.out;have r0:K.cell? ⟨s,0,none⟩=some (.int .i64 0):=(F.cell 0).1;have g0:=(F.cell 0).2;have r1:K.cell? ⟨s,1,none⟩=some (.slice none 0 0):=(F.cell 1).1;have g1:=(F.cell 1).2;have C:Hid (Below s w K):=Lib.hid (q.out.trans (h.below (by omega) (by have:=y.out;omega)));clear h F D
  rcases A with ⟨G,rfl⟩ | ⟨N,H,v,G,rfl,J,B,i,h3,Y⟩
  ·have u:Hid (dh l=none):=Lib.hid (by rw [b.out];exact G);clear G b;go_wp2_with fail
   refine bodyPost_ret (v:= .tuple #[.agg #[.int .i64 0,.slice none 0 0],.bool false]) (by simp [results,Tryz.results116,go_sem, *]) rfl ?_;refine ⟨.inl ⟨u.out,rfl⟩,?_⟩;rw [n.out];exact (C.out.setCell (Nat.le_refl _) _).setCell (Nat.le_refl _) _
  ·have u:Hid (dh l=some (N,H)):=Lib.hid (by rw [b.out];exact G);rw [y.out] at J;have HO:=Lib.hid J;have H4:=Lib.hid Y
   obtain ⟨a,I,rfl⟩:∃a I,v= .slice a H.length I:=by
    rcases J.2 with ⟨e,h0⟩ | ⟨g,a0,a1,e,_⟩
    ·exact ⟨_,_,by rw [h0];exact e⟩
    ·exact ⟨_,_,e⟩
   clear G b J Y;go_wp2_with fail
   refine bodyPost_ret (v:= .tuple #[.agg #[.int .i64 N,.slice a H.length I],.bool true]) (by simp [results,Tryz.results116,go_sem, *]) rfl ?_;refine ⟨.inr ⟨N,H,.slice a H.length I,u.out,rfl,?_,B,i,h3,H4.out⟩,?_⟩
   ·rw [n.out];exact (nX (nX HO.out (by omega)) (by omega)).mono (by omega)
   ·rw [n.out];exact (C.out.setCell (Nat.le_refl _) _).setCell (Nat.le_refl _) _
 ·have b:Hid (dh l=none):=Lib.hid (by
   cases l with
   | nil=>rfl
   | cons c r=>
    have j:¬c=71:=fun e=>f (by rw [e];rfl);unfold dh;simp only
    rw [if_neg j])
  have m1:((bs (gK ((some l).bind (bm 1)))).toList == [71])=false:=by
   rw [qM]
   cases l with
   | nil=>rfl
   | cons c r=>
    have j:¬c=71:=fun e=>f (by rw [e];rfl);show ([c] == [71])=false;simpa using j
  obtain ⟨t,X⟩:∃t,gK ((some l).bind (bm 1))=t:=⟨_,rfl⟩;rw [X] at m1 j;have d:=Lib.hid j;clear f X j;go_enter Tryz.func116,Tryz.ntmps116;go_wp2_with fail
  rw [x.out];refine d.out.mono ?_;rintro e p ⟨rfl,B,i⟩;have o:oe p s 0 (.slice none 0 0):=(i.2 s (by omega)).trans m.out;have r0:p.cell? ⟨s,0,none⟩=some (.int .i64 0):=(o.cell 0).1;have g0:=(o.cell 0).2;have r1:p.cell? ⟨s,1,none⟩=some (.slice none 0 0):=(o.cell 1).1;have g1:=(o.cell 1).2;have q:=Lib.hid (k.out.trans (i.below (by omega)));clear B i o d m k;go_wp2_with fail
  refine bodyPost_ret (v:= .tuple #[.agg #[.int .i64 0,.slice none 0 0],.bool false]) (by simp [results,Tryz.results116,go_sem, *]) rfl ?_;refine ⟨.inl ⟨b.out,rfl⟩,?_⟩;rw [n.out];exact (q.out.setCell (Nat.le_refl _) _).setCell (Nat.le_refl _) _
theorem nA (l:List UInt8) (w:World) (hl:l.length≤536870912):Calls Tryz.prog 118 #[.string (bs l)] w (tz l w):=by
 have sl:=aG l;obtain ⟨s,hs⟩:∃s,w.heap.size=s:=⟨_,rfl⟩;obtain ⟨W0,K⟩:∃W0:World,(w.alloc (.cells #[.int .i64 0,.slice none 0 0] 193)).alloc (.cells #[.string (bs l),.bool false] 187)=W0:=⟨_,rfl⟩;obtain ⟨F0,R0,B0,Z0⟩:=yn hs hl K;have p:=iY (s+1) 1 (some l) W0 F0 (by decide);have H:=Lib.hid K;have j:=Lib.hid hs;have z:=Lib.hid R0;have y:=Lib.hid B0;have S:=Lib.hid Z0;clear K F0 R0 B0 Z0
 by_cases m:l.take 1=[70]
 ·obtain ⟨r,hr⟩:∃r,l.drop 1=r:=⟨_,rfl⟩;have HL:Hid (l=70::r):=Lib.hid (by rw [←List.take_append_drop 1 l,m,hr];rfl);have e1:(some l).bind (bm 1)=some ([70],r):=by show bm 1 l=_;rw [HL.out];rfl
  have A:Hid (bS l=(fZ 4 r).bind fun a=>(dq a.2).bind fun x=>if a.1≤1000000000 then some (a.1,x.1,x.2) else none):=Lib.hid (by rw [HL.out];unfold bS;simp only;rw [if_pos trivial]);rw [e1] at p;have m1:((bs (gK (some ([70],r)))).toList == [70])=true:=by show ((bs [70]).toList == [70])=true;rw [qM];rfl
  have h:=Lib.hid p;clear p e1 hr m;go_enter Tryz.func118,Tryz.ntmps118;go_wp2_with fail
  rw [H.out];refine h.out.mono ?_;rintro e u ⟨rfl,B,d⟩;have F1:gG u (s+1) (some r):=B;have k:oe u s 0 (.slice none 0 0):=(d.2 s (by omega)).trans z.out;have P:=y.out.trans (d.below (by omega));have V:u.heap.size=s+2:=d.1.trans S.out;obtain ⟨T,X,hT⟩:∃T X,gj 4 (some r)=(T,X):=⟨_,_,rfl⟩;have a6:T≤4294967295:=by have:=lZ 4 (some r);rw [hT] at this;simp at this;omega
  have f:Hid (bS l=(jv X).bind fun x=>if T≤1000000000 then some (T,x.1,x.2) else none):=Lib.hid (by
   rw [A.out,jI,hT]
   cases X with
   | none=>rfl
   | some q=>rfl)
  have M:Calls Tryz.prog 111 #[.pointer (some ⟨s+1,0,none⟩),.int .i64 4] u fun e w'=>e= .returned (.int .i64 (gj 4 (some r)).1)∧gG w' (s+1) (gj 4 (some r)).2∧aL (s+1) u w':=dZ (s+1) 4 (some r) u F1 (by decide);rw [hT] at M;have Q:=Lib.hid M;have D:=Lib.hid k;have C:=Lib.hid P;have E:=Lib.hid V;clear B d F1 k P V h z y S H hT M A;go_wp2_with fail
  refine Q.out.mono ?_;rintro e O ⟨rfl,B,d⟩;have k:oe O s 0 (.slice none 0 0):=(d.2 s (by omega)).trans D.out;have P:=C.out.trans (d.below (by omega));have V:O.heap.size=s+2:=d.1.trans E.out;have R:=Lib.hid (rH (s+1) X O B (by omega));have a0:=Lib.hid k;have F:=Lib.hid P;have I:=Lib.hid V;clear B d k P V Q D C E;go_wp2_with fail
  refine R.out.mono ?_;rintro e b ⟨L,n⟩;have U:oe b s 0 (.slice none 0 0):=(n.block s (by have:=I.out;omega) (by omega)).trans a0.out;have Z:b.cell? ⟨s,0,none⟩=some (.int .i64 0):=(U.cell 0).1;have g0:=(U.cell 0).2;have r1:b.cell? ⟨s,1,none⟩=some (.slice none 0 0):=(U.cell 1).1;have g1:=(U.cell 1).2;have G:Hid (Below s w b):=Lib.hid (F.out.trans (n.below (by omega) (by have:=I.out;omega)));have a7:s < b.heap.size:=aC Z;have a9:∀o:Obj,(b.alloc o).cell? ⟨s,0,none⟩=some (.int .i64 0):=fun o=>(((Below.refl b.heap.size b).alloc (Nat.le_refl _) o).cell (aC Z)).trans Z;have b0:∀o:Obj,(b.alloc o).cell? ⟨s,1,none⟩=some (.slice none 0 0):=fun o=>(((Below.refl b.heap.size b).alloc (Nat.le_refl _) o).cell (aC r1)).trans r1;have a4:∀o:Obj,(b.alloc o).frozen? ⟨s,0,none⟩=false:=fun o=>(((Below.refl b.heap.size b).alloc (Nat.le_refl _) o).frozen (aC Z)).trans g0;have a5:∀o:Obj,(b.alloc o).frozen? ⟨s,1,none⟩=false:=fun o=>(((Below.refl b.heap.size b).alloc (Nat.le_refl _) o).frozen (aC r1)).trans g1;have a8:¬b.heap.size=s:=by omega
  have a1:¬s=b.heap.size:=by omega
  clear n U R
  rcases L with ⟨N,rfl⟩ | ⟨id,Y,v,N,rfl,W,B,d,h3,h4⟩
  ·have i:Hid (bS l=none):=Lib.hid (by rw [f.out,N];rfl);clear N f;go_wp2_with fail
   refine bodyPost_ret (v:= .tuple #[.int .i64 0,.agg #[.int .i64 0,.slice none 0 0],.bool false]) (by simp [results,Tryz.results118,go_sem, *]) rfl ?_;refine ⟨.inl ⟨i.out,rfl⟩,?_⟩;rw [j.out];exact ((G.out.setCell (Nat.le_refl _) _).setCell (Nat.le_refl _) _).alloc (by simp;omega) _
  ·obtain ⟨a,cp,rfl⟩:∃a cp,v= .slice a Y.length cp:=by
    rcases W.2 with ⟨e,h0⟩ | ⟨g,a2,a3,e,_⟩
    ·exact ⟨_,_,by rw [h0];exact e⟩
    ·exact ⟨_,_,e⟩
   rw [I.out] at W;have HO:=Lib.hid W;have H4:=Lib.hid h4
   by_cases J:T≤1000000000
   ·have i:Hid (bS l=some (T,id,Y)):=Lib.hid (by rw [f.out,N,sb,if_pos J]);have hd:decide (1000000000 < (T:Int))=false:=decide_eq_false (by omega);clear N f W h4;go_wp2_with fail
    go_region
    go_wp2_with fail
    refine bodyPost_ret (v:= .tuple #[.int .i64 T,.agg #[.int .i64 id,.slice a Y.length cp],.bool true]) (by simp [results,Tryz.results118,go_sem, *]) rfl ?_;refine ⟨.inr ⟨T,id,Y,.slice a Y.length cp,i.out,rfl,⟨?_,B,d,h3,H4.out⟩,J⟩,?_⟩
    ·rw [j.out];exact ((((nX (nX HO.out (by omega)) (by omega)).alloc _).drew)).mono (by omega)
    ·rw [j.out];exact (((G.out.setCell (Nat.le_refl _) _).setCell (Nat.le_refl _) _).alloc (by simp;omega) _).drew
   ·have i:Hid (bS l=none):=Lib.hid (by rw [f.out,N,sb,if_neg J]);have hd:decide (1000000000 < (T:Int))=true:=decide_eq_true (by omega);clear N f W h4;go_wp2_with fail
    refine bodyPost_ret (v:= .tuple #[.int .i64 0,.agg #[.int .i64 0,.slice none 0 0],.bool false]) (by simp [results,Tryz.results118,go_sem, *]) rfl ?_;refine ⟨.inl ⟨i.out,rfl⟩,?_⟩;rw [j.out];exact ((G.out.setCell (Nat.le_refl _) _).setCell (Nat.le_refl _) _).alloc (by simp;omega) _
 ·have A:Hid (bS l=none):=Lib.hid (by
   cases l with
   | nil=>rfl
   | cons c r=>
    have p:¬c=70:=fun e=>m (by rw [e];rfl);unfold bS;simp only
    rw [if_neg p])
  have m1:((bs (gK ((some l).bind (bm 1)))).toList == [70])=false:=by
   rw [qM]
   cases l with
   | nil=>rfl
   | cons c r=>
    have p:¬c=70:=fun e=>m (by rw [e];rfl);show ([c] == [70])=false;simpa using p
  obtain ⟨t,et⟩:∃t,gK ((some l).bind (bm 1))=t:=⟨_,rfl⟩;rw [et] at m1 p;have h:=Lib.hid p;clear m et p;go_enter Tryz.func118,Tryz.ntmps118;go_wp2_with fail
  rw [H.out];refine h.out.mono ?_;rintro e u ⟨rfl,B,d⟩;have k:oe u s 0 (.slice none 0 0):=(d.2 s (by omega)).trans z.out;have Z:u.cell? ⟨s,0,none⟩=some (.int .i64 0):=(k.cell 0).1;have g0:=(k.cell 0).2;have r1:u.cell? ⟨s,1,none⟩=some (.slice none 0 0):=(k.cell 1).1;have g1:=(k.cell 1).2;have F:=Lib.hid (y.out.trans (d.below (by omega)));clear B d k h z y;go_wp2_with fail
  refine bodyPost_ret (v:= .tuple #[.int .i64 0,.agg #[.int .i64 0,.slice none 0 0],.bool false]) (by simp [results,Tryz.results118,go_sem, *]) rfl ?_;refine ⟨.inl ⟨A.out,rfl⟩,?_⟩;rw [j.out];exact (F.out.setCell (Nat.le_refl _) _).setCell (Nat.le_refl _) _
def fY (l:List (List UInt8)):List UInt8:=Jq++l.flatMap fun t=>[13,10]++t
theorem Bm (l:List (List UInt8)) (k:Nat) (h:k < l.length):fY (l.take (k+1))=fY (l.take k)++([13,10]++l[k]):=by
 unfold fY;rw [List.take_succ_eq_append_getElem h,List.flatMap_append];simp
theorem Bl (a:List (List UInt8)) (b:List Nat):fY (b.map fun i=>a.getD i [])=Ai a b:=by
 unfold fY Ai;rw [List.flatMap_map];rfl
theorem nB (l:List (List UInt8)) (v:Value) (w:World) (h:bg w v l.length 1 (aB l)) (D:l.length≤255) (q:∀t∈l,t.length≤255):
  Calls Tryz.prog 170 #[v] w fun e z=>e= .returned (.string (bs (fY l)))∧w=z:=by
 obtain ⟨a,u,rfl,o⟩:=h.one;have r:=Lib.hid o;have s:=Lib.hid q;clear h o q;go_enter Tryz.func170,Tryz.ntmps170;go_wp2_with fail
 go_loop [3,8] (fun b i=>∃(k:Nat) (B:List UInt8),k≤l.length∧i= .int .i64 k∧b= .string (bs B)∧B.length≤14+257 * k∧Hid (B=fY (l.take k))) (fun _ i=>l.length - (intOf i).toNat)
 case atStart=>exact ⟨0,Jq,Nat.zero_le _,rfl,rfl,by decide,Lib.hid (by simp [fY])⟩
 case round=>
  obtain ⟨k,B,C,rfl,rfl,A,f⟩:=hrel;have F:=aG B
  by_cases d:k < l.length
  ·have p:(k:Int) < (l.length:Int):=by omega
   obtain ⟨b,y,rfl,x,c⟩:=r.out k d;rw [eh l k d] at c;have j:=s.out l[k] (List.getElem_mem d);have m:=Lib.hid (Bm l k d);obtain ⟨t,n⟩:∃t,l[k]=t:=⟨_,rfl⟩;rw [n] at c j m;have G:=aG t;have E:((⟨#[13,10]⟩:ByteArray)++bs t).size≤257:=by rw [show (⟨#[13,10]⟩:ByteArray)=bs [13,10] from rfl,cE,aG];simp;omega
   clear n;go_wp2_with fail
   refine ⟨⟨k+1,B++([13,10]++t),by omega,by go_num,?_,by simp;omega,Lib.hid (by rw [m.out,←f.out])⟩,by simp [intOf];omega⟩
   rw [show (⟨#[13,10]⟩:ByteArray)=bs [13,10] from rfl,cE,cE]
  ·have g:k=l.length:=by omega
   subst g;rw [List.take_length] at f;go_wp2_with fail
   go_ret;exact ⟨by rw [←f.out];rfl,rfl⟩
theorem jJ (P:Program) (g o:Nat) (t:TypeId) (b:Nat×Nat):∀(d:List Value) (i:Nat) (a:Array Value) (w:World),w.heap[g]? =some (.cells a t b)→(b.2≤o+i∨o+i+d.length≤b.1)→o+i+d.length≤a.size→(∀v∈d,v.oneCell'=true)→
  (storeCells ⟨g,o,none⟩ d i).run P w= .ok () (w.setRow g (a.toList.take (o+i)++d++a.toList.drop (o+i+d.length)).toArray)
 | [],i,a,w,hg,_,_,_=>by
  simp only [storeCells,List.append_nil,List.length_nil,Nat.add_zero,List.take_append_drop,Array.toArray_toList];rw [setRow_self w g a t b hg];rfl
 | v::rest,i,a,w,hg,hfz,hl,h1=>by
  have k:o+i < a.size:=by simp at hl;omega
  have f:(⟨g,o,none⟩:Addr).add i=⟨g,o+i,none⟩:=by unfold Addr.add;split <;> simp_all
  have c:w.cell? ⟨g,o+i,none⟩=some a[o+i]:=by simp [World.cell?,hg,k]
  have h:w.frozen? ⟨g,o+i,none⟩=false:=by
   obtain ⟨p,l⟩:=b;simp only [World.frozen?,hg,Bool.and_eq_false_iff,decide_eq_false_iff_not];simp only [List.length_cons] at hfz;omega
  have j:(store ((⟨g,o,none⟩:Addr).add i) v).run P w= .ok () (w.setRow g (a.setIfInBounds (o+i) v)):=by
   rw [f,run_store P w _ v _ (h1 v (by simp)),c];simp [h,setCell_eq_setRow w g (o+i) a t b v hg]
  have n:=jJ P g o t b rest (i+1) (a.setIfInBounds (o+i) v) (w.setRow g (a.setIfInBounds (o+i) v)) (setRow_heap w g a _ t _ hg) (by simp only [List.length_cons] at hfz;omega) (by simp at hl ⊢;omega) (fun x m=>h1 x (by simp [m]));simp only [storeCells,Sem.run_bind,j,Result.andThen_ok,n,setRow_setRow]
  congr 3
  have e:=list_seg_step a.toList (o+i) v rest (by simp at hl ⊢;omega);simpa [Array.toList_setIfInBounds,Nat.add_assoc] using e
def dT (w:World) (v:Value) (l:List UInt8):Prop:=
 (v= .slice none 0 0∧l=[])∨∃g cap cur fz,v= .slice (some ⟨g,0,none⟩) l.length cap∧w.heap[g]? =some (.cells cur 5 fz)∧(fz.2≤l.length∨cap≤fz.1)∧l.length≤cap∧cap≤maxLen∧cur.size=cap∧cur.toList.take l.length=Lib.byteCells l
theorem gR (l:List UInt8):(Lib.byteCells l).length=l.length:=by simp [Lib.byteCells]
theorem dT.nil (w:World):dT w (.slice none 0 0) []:= .inl ⟨rfl,rfl⟩
theorem dT.ofF {w:World} {base:Nat} {v:Value} {l:List UInt8} (h:w.ownsRowF base 5 1 v l.length (Lib.byteCells l)):dT w v l:=by
 rcases h.2 with ⟨c,f⟩ | ⟨g,a,b,e,c,_,i,m,j,k,n,d⟩
 ·exact .inl ⟨c,List.length_eq_zero_iff.1 f⟩
 ·exact .inr ⟨g,a,b,e,c,i,.inl (by omega),j,k,by omega,by rw [Nat.mul_one] at d;exact d⟩
theorem dT.len {w:World} {v:Value} {l:List UInt8} (h:dT w v l):∃a c,v= .slice a l.length c:=by
 rcases h with ⟨b,f⟩ | ⟨g,d,e,i,b,_⟩
 ·exact ⟨none,0,by rw [b,f];rfl⟩
 ·exact ⟨_,_,b⟩
theorem dT.tag {w:World} {v:Value} {l:List UInt8} (h:dT w v l) {g:Nat} (a:v.ownBlock=some g):∃b z,w.heap[g]? =some (.cells b 5 z):=by
 rcases h with ⟨c,_⟩ | ⟨i,d,b,f,c,e,_⟩
 ·rw [c] at a;cases a
 ·rw [c] at a;injection a with a;subst a;exact ⟨_,_,e⟩
theorem dT.lt {w:World} {v:Value} {l:List UInt8} (h:dT w v l) {g:Nat} (c:v.ownBlock=some g):g < w.heap.size:=by
 obtain ⟨a,z,b⟩:=h.tag c;exact ah b
theorem dT.chg {A:Nat→Prop} {w d:World} {v:Value} {l:List UInt8} (h:dT w v l) (i:aH A w d) (j:∀g,v.ownBlock=some g→¬A g):dT d v l:=by
 rcases h with h | ⟨g,a,b,e,c,f,r⟩
 ·exact .inl h
 ·exact .inr ⟨g,a,b,e,c,i.some_ f (j g (by rw [c];rfl)),r⟩
theorem dT.below {w a:World} {v:Value} {l:List UInt8} (h:dT w v l) (b:Below w.heap.size w a):dT a v l:=h.chg (aH.below b:aH (fun _=>False) w a) (fun _ _ e=>e)
theorem dT.cell {w:World} {v:Value} {l:List UInt8} (h:dT w v l) {g:Nat} (b:v.ownBlock=some g) (j:Nat) (a:j < l.length):w.cell? ⟨g,j,none⟩=some (.int .u8 ((l.getD j 0).toNat:Int)):=by
 rcases h with ⟨_,c⟩ | ⟨m,d,e,k,c,f,_,_,_,_,i⟩
 ·rw [c] at a;simp at a
 ·rw [c] at b;injection b with b;subst b;rw [Lib.cell_of_heap f,←Array.getElem?_toList,←List.getElem?_take_of_lt a,i,Lib.byteCells,List.getElem?_map,List.getElem?_eq_getElem a,List.getD_eq_getElem?_getD,List.getElem?_eq_getElem a];rfl
theorem dT.cells {w:World} {l:List UInt8} {g n c:Nat} (h:dT w (.slice (some ⟨g,0,none⟩) n c) l):∀j u,(Lib.byteCells l)[j]? =some u→w.cell? ((⟨g,0,none⟩:Addr).add j)=some u:=by
 intro j u d;have a:(⟨g,0,none⟩:Addr).add j=⟨g,j,none⟩:=by unfold Addr.add;split <;> simp_all
 have b:j < l.length:=by have:=(List.getElem?_eq_some_iff.1 d).1;rwa [gR] at this
 rw [a,h.cell rfl j b,←d,Lib.byteCells,List.getElem?_map,List.getElem?_eq_getElem b,List.getD_eq_getElem?_getD,List.getElem?_eq_getElem b];rfl
theorem dT.string {w:World} {v:Value} {l:List UInt8} (h:dT w v l):(convert 114 9 v).run Tryz.prog w= .ok (.string (bs l)) w:=by
 rcases h with ⟨rfl,rfl⟩ | ⟨g,cap,a,b,rfl,c,r⟩
 ·rw [run_convert_bytes_string w 114 9 5 none 0 0 Tryz.underlying114 Tryz.underlying5 Tryz.underlying9];simp [Conv.bytesToString,Sem.run_pure];rfl
 ·exact oP w g cap l.length l rfl (fun j d=>dT.cell (.inr ⟨g,cap,a,b,rfl,c,r⟩) rfl j d)
theorem dT.conv (w:World) (l:List UInt8) (d:l.length≤maxLen):dT (Lib.bytesWorld w 5 (bs l)) (.slice (some ⟨w.heap.size,0,none⟩) (bs l).size (grownCap w (bs l).size 0 5)) l:=by
 have a:=aG l;have b:=grownCap_ge w l.length 0 5;have c:=grownCap_le_maxLen w l.length 0 5 d;refine .inr ⟨w.heap.size,grownCap w l.length 0 5,_,_,by rw [a],Lib.bytesWorld_at_new w 5 (bs l),.inr ?_,b,c,?_,?_⟩
 ·simp only [Lib.bytesCells,a,Array.size_append,Array.size_map,Array.size_replicate];have:(bs l).data.size=l.length:=a;omega
 ·simp only [Lib.bytesCells,a,Array.size_append,Array.size_map,Array.size_replicate];have:(bs l).data.size=l.length:=a;omega
 ·simp only [Lib.bytesCells,Array.toList_append,Array.toList_map];rw [List.take_left' (by simp [bs])];simp [Lib.byteCells,bs]
theorem qA {α:Type} (a b c:List α) {n:Nat} (h:n=a.length+b.length):(a++b++c).take n=a++b:=by
 rw [h,←List.length_append];exact List.take_left
theorem dT.text {w:World} {v:Value} {l:List UInt8} (h:dT w v l) (s:List UInt8) (L:l.length+s.length≤140737488355328):
  ∃a n c B,(Builtin.append_ #[114,9] 114 #[v,.string (bs s)]).run Tryz.prog w= .ok (.slice a n c) B∧dT B (.slice a n c) (l++s)∧aH (fun k=>v.ownBlock=some k) w B∧∀k,(Value.slice a n c).ownBlock=some k→v.ownBlock=some k∨w.heap.size≤k:=by
 obtain ⟨i,H,z,p,A⟩:=info_parts lx;have x:=aG s
 rcases h with ⟨rfl,rfl⟩ | ⟨g,b,f,C,rfl,q,F,Q,J,R,K⟩
 ·obtain ⟨U,B,O,E,q,F⟩:=jW (P:=Tryz.prog) w 0 114 9 114 5 i Tryz.underlying114 Tryz.underlying9 H z p A (.slice none 0 0) 0 [] (World.ownsRowF_nil w 0 5 1) (bs s) (by unfold maxLen;simp at L;omega) (by simp at L;omega) (Nat.zero_le _)
  obtain ⟨a,n,c,rfl⟩:∃a m c,U= .slice a m c:=by
   rcases E.2 with ⟨e,_⟩ | ⟨g,b,f,C,e,_⟩
   ·exact ⟨_,_,_,e⟩
   ·exact ⟨_,_,_,e⟩
  refine ⟨a,n,c,B,O,dT.ofF (base:=0) ?_,aH.grown q,F⟩;have N:[]++Lib.strCells (bs s)=Lib.byteCells s:=by simp [Lib.byteCells,Lib.strCells,bs]
  rw [N,Nat.zero_add,x] at E;exact E
 ·have S:dT w (.slice (some ⟨g,0,none⟩) l.length b) l:= .inr ⟨g,b,f,C,rfl,q,F,Q,J,R,K⟩;have d:Lib.strCells (bs s)=Lib.byteCells s:=by simp [Lib.byteCells,Lib.strCells,bs]
  have t:=gR s;have u:=gR l;have r:Lib.byteCells (l++s)=Lib.byteCells l++Lib.byteCells s:=by simp [Lib.byteCells]
  by_cases j:l.length+s.length≤b
  ·have M:=Lib.run_firstCells_string (P:=Tryz.prog) w 1 (bs s);have y:=jJ Tryz.prog g l.length 5 C (Lib.strCells (bs s)) 0 f w q (by rw [d];omega) (by rw [d];omega) (Lib.strCells_oneCell (bs s));simp only [Nat.add_zero,Lib.strCells_length,x] at y;rw [x] at M
   have D:(Builtin.append_ #[114,9] 114 #[.slice (some ⟨g,0,none⟩) l.length b,.string (bs s)]).run Tryz.prog w= .ok (.slice (some ⟨g,0,none⟩) (l.length+s.length) b) (w.setRow g (f.toList.take l.length++Lib.strCells (bs s)++f.toList.drop (l.length+s.length)).toArray):=by
    simp [Builtin.append_,run_underlying Tryz.underlying114,run_underlying Tryz.underlying9,sizeOf,typeInfo,H,p,Builtin.lenOf,x,j,M,Addr.add_lit,y]
   refine ⟨_,_,_,_,D,.inr ⟨g,b,_,C,by rw [List.length_append],setRow_heap w g f _ 5 _ q,by rw [List.length_append];omega,by rw [List.length_append];exact j,J,?_,?_⟩,⟨by simp [World.setRow],fun k _ o=>setRow_other w g k _ (fun e=>o (by rw [e];rfl)),⟨rfl,rfl,rfl⟩⟩,fun k o=> .inl o⟩
   ·simp only [List.size_toArray,List.length_append,List.length_take,List.length_drop,Array.length_toList,d,t];omega
   ·rw [K,d,r,List.length_append];exact qA _ _ _ (by omega)
  ·have D:=Lib.run_append_grow_string (P:=Tryz.prog) w 114 9 114 5 i (.int .u8 0) Tryz.underlying114 Tryz.underlying9 H z ⟨g,0,none⟩ l.length b (Lib.byteCells l) (by rw [p];omega) S.cells (bs s) (by omega) (by omega) (by rw [A];exact growslice_fits (by omega) (by omega));rw [x] at D;have G:=grownCap_ge w (l.length+s.length) b 5;have I:=grownCap_le_maxLen w (l.length+s.length) b 5 (by unfold maxLen;omega);refine ⟨_,_,_,_,D,.inr ⟨w.heap.size,_,_,(0,0),by rw [List.length_append],heap_alloc_new w.drew _,.inl (Nat.zero_le _),by rw [List.length_append];exact G,I,?_,?_⟩,aH.below ((Below.refl w.heap.size w).drew.alloc (Nat.le_refl _) _),fun k o=> .inr (by injection o with o;exact Nat.le_of_eq o)⟩
   ·have T:(Value.int IntKind.u8 0).cells.size=1:=rfl;simp only [Array.size_append,List.size_toArray,size_zeroCells,T,d,t,u];omega
   ·simp only [Array.toList_append,d,r,List.length_append];exact qA _ _ _ (by omega)
theorem dT.one {w W:World} {v:Value} {l:List UInt8} (h:dT w v l) (x:UInt8) (r:Below w.heap.size w W) (T:W.heap[w.heap.size]? =some (.cells #[.int .u8 (x.toNat:Int)] 5 (0,0))) (X:l.length+1≤140737488355328):
  ∃a n c D,(Builtin.append_ #[114,114] 114 #[v,.slice (some ⟨w.heap.size,0,none⟩) 1 1]).run Tryz.prog W= .ok (.slice a n c) D∧dT D (.slice a n c) (l++[x])∧aH (fun k=>v.ownBlock=some k) w D∧∀k,(Value.slice a n c).ownBlock=some k→v.ownBlock=some k∨w.heap.size≤k:=by
 obtain ⟨i,H,B,p,C⟩:=info_parts lx;have d:∀j u,[Value.int .u8 (x.toNat:Int)][j]? =some u→W.cell? ((⟨w.heap.size,0,none⟩:Addr).add j)=some u:=World.news_of_block (cs:=#[.int .u8 (x.toNat:Int)]) (t:=5) (fr:=(0,0)) T;have F:=h.below r;have s:Lib.byteCells (l++[x])=Lib.byteCells l++[.int .u8 (x.toNat:Int)]:=by simp [Lib.byteCells]
 have y:=gR l
 rcases F with ⟨rfl,rfl⟩ | ⟨g,b,m,E,rfl,q,O,Q,K,R,L⟩
 ·obtain ⟨g,b,D,M,N,q⟩:=gC (P:=Tryz.prog) W 114 114 0 5 i (.int .u8 0) 1 1 Tryz.underlying114 H B p C rfl (by decide) (.slice none 0 0) 0 [] ⟨rfl,.inl ⟨rfl,rfl⟩⟩ ⟨w.heap.size,0,none⟩ 1 1 [.int .u8 (x.toNat:Int)] rfl d (by intro u A;simp at A;rw [A];rfl) (by decide) (by unfold maxLen;decide) (by decide) (Nat.zero_le _)
  rcases q with ⟨e,_⟩ | ⟨e,q⟩
  ·cases e
  ·refine ⟨_,_,_,D,M,dT.ofF (base:=0) (World.ownsRowF_of N),(aH.below r:aH _ w W).trans (aH.grown q) (fun k _ e=>by cases e),fun k f=> .inr ?_⟩;injection f with f;have f:g=k:=f;have:=r.size;omega
 ·have S:dT W (.slice (some ⟨g,0,none⟩) l.length b) l:= .inr ⟨g,b,m,E,rfl,q,O,Q,K,R,L⟩
  by_cases o:l.length+1≤b
  ·have U:=run_firstCells_some (P:=Tryz.prog) W 1 1 ⟨w.heap.size,0,none⟩ 1 1 [.int .u8 (x.toNat:Int)] rfl d;have z:=jJ Tryz.prog g l.length 5 E [.int .u8 (x.toNat:Int)] 0 m W q (by simp only [List.length_cons,List.length_nil];omega) (by simp only [List.length_cons,List.length_nil];omega) (by intro u A;simp at A;rw [A];rfl);simp only [Nat.add_zero,List.length_cons,List.length_nil,Nat.zero_add] at z
   have J:(Builtin.append_ #[114,114] 114 #[.slice (some ⟨g,0,none⟩) l.length b,.slice (some ⟨w.heap.size,0,none⟩) 1 1]).run Tryz.prog W= .ok (.slice (some ⟨g,0,none⟩) (l.length+1) b) (W.setRow g (m.toList.take l.length++[Value.int .u8 (x.toNat:Int)]++m.toList.drop (l.length+1)).toArray):=by
    simp [Builtin.append_,run_underlying Tryz.underlying114,sizeOf,typeInfo,H,p,Builtin.lenOf,o,U,Addr.add_lit,z]
   refine ⟨_,_,_,_,J,.inr ⟨g,b,_,E,by rw [List.length_append];rfl,setRow_heap W g m _ 5 _ q,by rw [List.length_append];simp only [List.length_cons,List.length_nil];omega,by rw [List.length_append];exact o,K,?_,?_⟩,(aH.below r:aH _ w W).trans (A1:=fun k=>k=g) ⟨by simp [World.setRow],fun k _ f=>setRow_other W g k _ f,⟨rfl,rfl,rfl⟩⟩ (fun k _ e=>by rw [e];rfl),fun k f=> .inl f⟩
   ·simp only [List.size_toArray,List.length_append,List.length_take,List.length_drop,Array.length_toList,List.length_cons,List.length_nil];omega
   ·rw [L,s,List.length_append];exact qA _ _ _ (by simp only [List.length_cons,List.length_nil];omega)
  ·have J:=run_append_grow (P:=Tryz.prog) W 114 114 5 i (.int .u8 0) Tryz.underlying114 H B ⟨g,0,none⟩ l.length b (Lib.byteCells l) (by rw [p];omega) S.cells ⟨w.heap.size,0,none⟩ 1 1 [.int .u8 (x.toNat:Int)] (by rw [p];rfl) d (by omega) (by omega) (by rw [C];exact growslice_fits (by omega) (by omega));have G:=grownCap_ge W (l.length+1) b 5;have I:=grownCap_le_maxLen W (l.length+1) b 5 (by unfold maxLen;omega);refine ⟨_,_,_,_,J,.inr ⟨W.heap.size,_,_,(0,0),by rw [List.length_append];rfl,heap_alloc_new W.drew _,.inl (Nat.zero_le _),by rw [List.length_append];exact G,I,?_,?_⟩,(aH.below r:aH _ w W).trans (aH.below ((Below.refl W.heap.size W).drew.alloc (Nat.le_refl _) _):aH (fun _=>False) _ _) (fun _ _ e=>e.elim),fun k f=> .inr (by injection f with f;have f:W.heap.size=k:=f;have:=r.size;omega)⟩
   ·have V:(Value.int IntKind.u8 0).cells.size=1:=rfl;simp only [Array.size_append,List.size_toArray,size_zeroCells,V,y,List.length_cons,List.length_nil];omega
   ·simp only [Array.toList_append,s,List.length_append];exact qA _ _ _ (by simp only [List.length_cons,List.length_nil];omega)
theorem lX (l:List (List UInt8)) (a:∀t∈l,t.length≤255):(fY l).length≤14+257 * l.length:=by
 unfold fY;rw [List.length_append,show Jq.length=14 from rfl]
 have:(l.flatMap fun t=>[13,10]++t).length≤257 * l.length:=by
  induction l with
  | nil=>simp
  | cons x l ih=>
   have c:=ih fun t b=>a t (by simp [b]);have d:=a x (by simp);rw [List.flatMap_cons,List.length_append,List.length_append];simp only [List.length_cons,List.length_nil];omega
 omega
theorem nQ {a:List (List UInt8)} (b:∀t∈a,t.length≤255) (i:Nat):(a.getD i []).length≤255:=by
 rw [List.getD_eq_getElem?_getD]
 cases h:a[i]? with
 | none=>simp
 | some x=>exact b x (List.mem_of_getElem? h)
theorem jS {S:aa} {c:Nat} {a:List Nat} (d:bF a=true) (b:bt S c a=true):dx (S.stayOf (c - 1)) a=a.map fun i=>(S.mailOf (c - 1)).tos.getD i []:=by
 unfold bt at b;rw [Bool.and_eq_true,List.all_eq_true] at b;unfold dx aa.stayOf;refine DL _ _ _ d fun x e=>?_;have:=b.2 x e;simpa using this
theorem kf {S:aa} {T a:Nat} {b:List Nat} (e:bF b=true) (c:bt S a b=true) (d:S.time≤T):
  ((S.mailOf (a - 1)).frm=[]→S.takesF T a b=some (aa.outs ⟨S.items,T⟩ (a - 1) b))∧
  ((S.mailOf (a - 1)).frm≠[]→S.takesF T a b=some ((aa.outs ⟨S.items,T⟩ (a - 1) b).plus ⟨S.items.length+1,T,[],[(S.mailOf (a - 1)).frm],fY (dx (S.stayOf (a - 1)) b)⟩)):=by
 unfold aa.takesF;rw [c,decide_eq_true d];simp only [Bool.and_true,if_true,aa.failed]
 constructor
 ·intro h;rw [if_pos h];rfl
 ·intro h;rw [if_neg h,jS e c,Bl];simp [aa.plus,aa.outs]
theorem vL (a b p:Nat) (q:Nat→Nat) (E r:Value) (S:aa) (T m:Nat) (d:List Nat) (w:World) (h:bh a w b p q E S) (A:S.Ok) (B:Nat) (hp:w.ownsRow B 3 1 r d.length (aZ d)) (c6:m≤4294967295) (h1:1≤d.length) (a2:d.length≤255) (hr:bF d=true) (hT:T≤1000000000) (hn:S.items.length < 4294967295):
  Calls Tryz.prog 119 #[.pointer (some ⟨b,0,none⟩),.int .i64 T,.agg #[.int .i64 m,r]] w (mL a b p q E S (S.takesF T m d) w):=by
 have c7:=h.le;obtain ⟨J,y⟩:∃J:World,w.alloc (.cells #[.int .i64 m,r] 193)=J:=⟨_,rfl⟩;have B0:Below w.heap.size w J:=by rw [←y];exact (Below.refl _ _).alloc (Nat.le_refl _) _
 have A0:bh a J b p q E S:=h.keep B0;have X0:J.heap[w.heap.size]? =some (.cells #[.int .i64 m,r] 193 (0,0)):=by rw [←y];exact heap_alloc_new w _
 have O0:=aA hp fun g G e _=>ae B0 e;have HM:=Lib.hid (j8 a b p q E r S m d J A0 A (aF O0) c6 h1 a2 (by omega));have Q:=Lib.hid A0;have a6:=Lib.hid B0;have b4:=Lib.hid y;have b6:=Lib.hid X0;have b0:=Lib.hid O0;have c9:b < w.heap.size:=h.pblt;clear A0 B0 y X0 hp h O0;go_enter Tryz.func119,Tryz.ntmps119;go_wp2_with fail
 rw [b4.out];refine HM.out.mono ?_;rintro e I ⟨rfl,n⟩;have x0:=ae n b6.out;have y0:I.cell? ⟨w.heap.size,0,none⟩=some (.int .i64 m):=by rw [Lib.cell_of_heap x0];rfl
 have y1:I.cell? ⟨w.heap.size,1,none⟩=some r:=by rw [Lib.cell_of_heap x0];rfl
 have b7:=Lib.hid x0;have A2:=Q.out.keep n;have c1:I.cell? ⟨b,1,none⟩=some (.int .i64 S.time):=by rw [Lib.cell_of_heap A2.bag];rfl
 have g1:I.frozen? ⟨b,1,none⟩=false:=Lib.frozen_of_heap A2.bag 1;have j:=Lib.hid A2;have O2:=Lib.hid (aA b0.out fun g G e _=>ae n e);have B2:=Lib.hid (((a6.out.mono c7)).trans (n.mono Q.out.le));clear x0 n A2
 cases M:bt S m d with
 | false=>
  have HT:Hid (S.takesF T m d=none):=Lib.hid (by unfold aa.takesF;rw [M];rfl);clear M;go_wp2_with fail
  go_ret;exact ⟨.inl ⟨HT.out,rfl,j.out⟩,B2.out⟩
 | true=>
  by_cases u:S.time≤T
  ·have s:=Lib.hid (kf hr M u);have V:=Lib.hid (jS hr M);rw [db h1,Bool.and_eq_true,decide_eq_true_eq] at M;obtain ⟨⟨c2,k⟩,_⟩:=M;obtain ⟨K,rfl⟩:∃K,m=K+1:=⟨m - 1,by omega⟩
   rw [Nat.add_sub_cancel] at s V k;have c8:¬T < S.time:=by omega
   clear u;go_wp2_with fail
   obtain ⟨f,C⟩:∃f:World,I.setCell ⟨b,1,none⟩ (.int .i64 T)=f:=⟨_,rfl⟩;rw [C];have Y:aL b I f:=by rw [←C];exact (aL.refl _ _).setCell _
   have P3:f.heap[b]? =some (.cells #[E,.int .i64 T,.int .i64 S.items.length,.map (some p)] 117 (0,0)):=by
    rw [←C];exact heap_setCell_same I b 1 _ _ (.int .i64 T) j.out.bag
   have O:bh a f.drew b p q E ⟨S.items,T⟩:=(j.out.timed Y P3).keep ((Below.refl _ _).drew);have X3:f.drew.heap[w.heap.size]? =some (.cells #[.int .i64 ((K:Int)+1),r] 193 (0,0)):=aP Y b7.out (by omega);have O3:f.drew.ownsRow B 3 1 r d.length (aZ d):=aA O2.out fun g G e _=>aP Y e fun e'=>by rw [e',j.out.bag] at e;simp at e
   have c3:f.drew.cell? ⟨b,3,none⟩=some (.map (some p)):=by rw [Lib.cell_of_heap O.bag];rfl
   have z0:f.drew.cell? ⟨w.heap.size,0,none⟩=some (.int .i64 ((K:Int)+1)):=by rw [Lib.cell_of_heap X3];rfl
   have z1:f.drew.cell? ⟨w.heap.size,1,none⟩=some r:=by rw [Lib.cell_of_heap X3];rfl
   have a0:=bq k
   have d2:(Instr.lookup 115 (.map (some p)) (.int .i64 ((K:Int)+1)) false).run Tryz.prog f.drew= .ok (.pointer (some ⟨q K,0,none⟩)) f.drew:=
    ig (t:=115) (e:=122) fU Tryz.underlying115 O.map (fun i hi=>by have:=bq hi;simp only at this;omega) K (by omega) k false
   obtain ⟨_,v,_,hb,_⟩:=O.mail K k;have m1:f.drew.cell? ⟨q K,1,none⟩=some (.string (bs (S.mailOf K).frm)):=by rw [Lib.cell_of_heap hb];rfl
   have a9:=Lib.hid (pz a b p q E r ⟨S.items,T⟩ K d f.drew O (A.time T) (aF O3) k a2 (by show S.items.length≤_;omega));have c0:=Lib.hid (B2.out.trans ((Y.below j.out.pbb).drew));have X:Hid (dQ (S.mailOf K)):=Lib.hid (by rw [cd a0];exact (A.sz _ (List.getElem_mem a0)).1);have b2:=Lib.hid (dk A K);clear C Y P3 O X3 O3 hb y0 y1 c1 g1 c2 k;obtain ⟨F,eF⟩:∃F,(S.mailOf K).frm=F:=⟨_,rfl⟩;rw [eF] at m1 s;go_region
   all_goals
    go_wp2_with fail
    refine a9.out.mono ?_;rintro e c ⟨vn,rfl,a3,P,B4⟩;have b8:=P.le
    have c4:c.drew.cell? ⟨b,2,none⟩=some (.int .i64 (S.items.length:Int)):=by
     show c.cell? _=_;rw [Lib.cell_of_heap P.bag,bL];rfl
    have c5:∀o:Obj,(c.alloc o).cell? ⟨b,2,none⟩=some (.int .i64 (S.items.length:Int)):=fun o=>by
     have:=ae ((Below.refl _ c).alloc (Nat.le_refl _) o) P.bag;rw [Lib.cell_of_heap this,bL];rfl
    have b3:=Lib.hid a3;have R:=Lib.hid P;have U:=Lib.hid (c0.out.trans B4);clear a3 P B4
    by_cases H:F=[]
    ·have tF:(bs F).toList.isEmpty=true:=by rw [Lib.toList_data,H];rfl
     have HR:=Lib.hid (s.out.1 H);clear H;go_wp2_with fail
     go_ret;exact ⟨.inr ⟨_,q,HR.out,rfl,R.out⟩,U.out⟩
    ·have tF:(bs F).toList.isEmpty=false:=by
      rw [Lib.toList_data]
      cases F with
      | nil=>exact absurd rfl H
      | cons x l=>rfl
     have HR:=Lib.hid (s.out.2 H);have d3:IntKind.i64.wrap ((S.items.length:Int)+1)=(S.items.length:Int)+1:=by rw [IntKind.wrap_i64];omega
     obtain ⟨N,Z⟩:∃N,dx (S.stayOf K) d=N:=⟨_,rfl⟩;have d0:N.length≤10:=by rw [←Z];have:=mV (S.stayOf K) d;have:=b2.out;omega
     have a1:∀t∈N,t.length≤255:=by
      intro t ht;rw [←Z,V.out,List.mem_map] at ht;obtain ⟨i,_,rfl⟩:=ht;exact nQ X.out.2.2.2.2.1 i
     have d1:=lX N a1;have D:c.ownsRow f.drew.heap.size 9 1 vn N.length (aB N):=by rw [←Z];exact b3.out
     have b1:Hid (∀W:World,Below c.heap.size c W→Calls Tryz.prog 170 #[vn] W fun e w'=>e= .returned (.string (bs (fY N)))∧W=w'):=Lib.hid (fun W hW=>nB N vn W (aF (aA D fun g G e _=>ae hW e)) (by omega) a1);obtain ⟨L,z⟩:∃L:World,(c.alloc (.cells #[.string (bs F)] 9)).drew=L:=⟨_,rfl⟩;have B5:Below c.heap.size c L:=by rw [←z];exact ((Below.refl _ _).alloc (Nat.le_refl _) _).drew
     have X5:L.heap[c.heap.size]? =some (.cells #[.string (bs F)] 9 (0,0)):=by rw [←z];exact heap_alloc_new c _
     have O5:L.ownsRow c.heap.size 9 1 (.slice (some ⟨c.heap.size,0,none⟩) 1 1) 1 (aB [F]):=
      ⟨rfl,.inr ⟨c.heap.size,1,_,rfl,Nat.le_refl _,X5,Nat.le_refl _,by unfold maxLen;omega,rfl,rfl⟩⟩
     have a5:=Lib.hid (tG a b p q E (aa.outs ⟨S.items,T⟩ K d) ⟨S.items.length+1,T,[],[F],fY N⟩ (.slice (some ⟨c.heap.size,0,none⟩) 1 1) L (R.out.keep B5) c.heap.size O5
      ⟨by show S.items.length+1≤_;omega,by show T≤_;omega,by simp,by simp,fun t ht=>by simp at ht;subst ht;rw [←eF];exact X.out.2.2.1,by show (fY N).length≤_;omega⟩ (by rw [bL]) (by simp) (by rw [bL];exact hn))
     have a7:=Lib.hid (U.out.trans (B5.mono b8));have b5:=Lib.hid z;have HF:=Lib.hid H;rw [Z] at HR;clear H eF B5 X5 O5 D z Z;go_wp2_with fail
     go_region_law (first
      | (go_simp;go_at_call 170;refine (b1.out _ (by first | exact (Below.refl _ _).drew | exact ((Below.refl _ _).alloc (Nat.le_refl _) _).drew | exact ((Below.refl _ _).drew).alloc (Nat.le_refl _) _)).mono ?_;rintro e w5 ⟨rfl,rfl⟩)
      | (go_simp;go_at_call 166;rw [b5.out];refine a5.out.mono ?_;rintro e w6 ⟨rfl,q',A6,B6⟩;have a4:=Lib.hid A6;have a8:=Lib.hid B6;clear A6 B6))
     all_goals
      go_wp2_with fail
      go_ret;exact ⟨.inr ⟨_,_,HR.out,rfl,a4.out⟩,a7.out.trans a8.out⟩
  ·have HT:Hid (S.takesF T m d=none):=Lib.hid (by unfold aa.takesF;rw [decide_eq_false u,Bool.and_false];rfl);have c8:T < S.time:=by omega
   clear u;go_wp2_with fail
   go_ret;exact ⟨.inl ⟨HT.out,rfl,j.out⟩,B2.out⟩
theorem oD {l:List UInt8} {m:aX} (h:bP l=some m):dr m=true:=by
 unfold bP at h
 split at h
 ·cases h
 ·split at h
  ·rw [Option.bind_eq_some_iff] at h;obtain ⟨a,_,h⟩:=h
   split at h
   ·cases h;assumption
   ·cases h
  ·cases h
theorem rL {m:aX} (h:dr m=true):1≤m.tos.length∧m.tos.length≤10:=by
 unfold dr iH at h;simp only [Bool.and_eq_true,decide_eq_true_eq] at h;exact ⟨h.1.2.1.1,h.1.2.1.2⟩
theorem uE {l:List UInt8} {x:Nat×List Nat} (h:dq l=some x):bF x.2=true:=by
 unfold dq at h;rw [Option.bind_eq_some_iff] at h;obtain ⟨a,_,h⟩:=h
 split at h
 ·rename_i b
  rw [Bool.and_eq_true] at b
  cases h
  exact b.2
 ·cases h
theorem qt {l:List UInt8} {T d:Nat} {b:List Nat} (h:bS l=some (T,d,b)):bF b=true:=by
 unfold bS at h
 split at h
 ·cases h
 ·split at h
  ·rw [Option.bind_eq_some_iff] at h;obtain ⟨a,_,h⟩:=h;rw [Option.bind_eq_some_iff] at h;obtain ⟨x,c,h⟩:=h
   split at h
   ·cases h;exact uE c
   ·cases h
  ·cases h
theorem Kx {S b:aa} {m:aX} (a:S.Ok) (e:dQ m) (d:1≤m.tos.length∧m.tos.length≤10) (h:S.takesM m=some b):b.Ok:=by
 unfold aa.takesM at h
 split at h
 ·rename_i c
  rw [Bool.and_eq_true,decide_eq_true_eq] at c
  cases h
  exact a.plus c.1 e d.1 d.2
 ·cases h
theorem Kv {S b:aa} {c:Nat} {d:List Nat} (a:S.Ok) (h:S.takesG c d=some b):b.Ok:=by
 unfold aa.takesG at h
 split at h
 ·cases h;exact a.outs _ _
 ·cases h
theorem Ku {S g:aa} {T a:Nat} {c:List Nat} (b:S.Ok) (l:bF c=true) (q:T≤1000000000) (u:S.items.length < 4294967295) (h:S.takesF T a c=some g):g.Ok:=by
 have d:bt S a c=true∧S.time≤T:=by
  unfold aa.takesF at h
  split at h
  ·rename_i d
   rwa [Bool.and_eq_true,decide_eq_true_eq] at d
  ·cases h
 obtain ⟨o,p⟩:=kf l d.1 d.2;have k:aa.Ok (aa.outs ⟨S.items,T⟩ (a - 1) c):=(b.time T).outs _ _
 by_cases j:(S.mailOf (a - 1)).frm=[]
 ·rw [o j] at h;cases h;exact k
 ·rw [p j] at h
  cases h
  have e:a - 1 < S.items.length:=by
   have:=d.1;unfold bt at this;simp only [Bool.and_eq_true,decide_eq_true_eq] at this;omega
  have m:dQ (S.mailOf (a - 1)):=by rw [cd e];exact (b.sz _ (List.getElem_mem e)).1
  have s:(dx (S.stayOf (a - 1)) c).length≤10:=by have:=mV (S.stayOf (a - 1)) c;have:=dk b (a - 1);omega
  have n:∀t∈dx (S.stayOf (a - 1)) c,t.length≤255:=by
   intro t f;rw [jS l d.1,List.mem_map] at f;obtain ⟨i,_,rfl⟩:=f;exact nQ m.2.2.2.2.1 i
  have r:=lX _ n;refine k.plus (by rw [bL]) ⟨by show S.items.length+1≤_;omega,by show T≤_;omega,by simp,by simp,fun t f=>by simp at f;subst f;exact m.2.2.1,by show (fY _).length≤_;omega⟩ (by simp) (by simp)
theorem kj {w:World} {b i n:Nat} {e:TypeId} {v:Value} {j:List Value} (h:w.ownsRow b e i v n j):∃a m c,v= .slice a m c:=by
 rcases h.2 with ⟨e,_⟩ | ⟨g,d,f,e,_⟩
 ·exact ⟨_,_,_,e⟩
 ·exact ⟨_,_,_,e⟩
theorem Ac (j K W:Nat) (q:Nat→Nat) (vr:Value) (S:aa) (l:List UInt8) (n:Int) (w:World) (h:bh j w K W q vr S) (u:S.Ok) (hl:l.length≤536870912) (hm:w.cell? ⟨0,0,none⟩=some (.int .i64 n)) (hn:S.items.length < 4294967295):
  Calls Tryz.prog 75 #[.pointer (some ⟨K,0,none⟩),.string (bs l)] w fun e w'=>mL j K W q vr S (S.takes l) w e w'∧∀c,S.takes l=some c→c.Ok:=by
 have V:=h.le;have HH:=Lib.hid h;have o:=Lib.hid (mj S l);have HM:=Lib.hid (ka l n w hl hm);clear h hm;go_enter Tryz.func75,Tryz.ntmps75;go_wp2_with fail
 refine HM.out.mono ?_;rintro e w1 ⟨b,E⟩;have L:=Lib.hid (HH.out.keep E);have B1:=Lib.hid E;clear E
 rcases b with ⟨d,rfl⟩ | ⟨J,v,d,rfl,z,hz⟩
 ·rw [d] at o;simp only [aY,lf];clear d;go_wp2_with fail
  refine (ma l _ hl).mono ?_;rintro e w3 ⟨b,F⟩;have M:=Lib.hid ((L.out.keep ((Below.refl _ _).alloc (Nat.le_refl _) _)).keep F);have N:=Lib.hid (((B1.out.mono V).alloc L.out.le _).trans (F.mono (Nat.le_trans L.out.le (by simp))));clear F
  rcases b with ⟨d,rfl⟩ | ⟨I,Y,v,d,rfl,z,s,x,y,H⟩
  ·rw [d] at o;clear d;go_wp2_with fail
   refine (nA l _ hl).mono ?_;rintro e w5 ⟨b,G⟩;have A5:=Lib.hid ((M.out.keep ((Below.refl _ _).alloc (Nat.le_refl _) _)).keep G);have O:=Lib.hid ((N.out.alloc M.out.le _).trans (G.mono (Nat.le_trans M.out.le (by simp))));clear G
   rcases b with ⟨d,rfl⟩ | ⟨T,I,Y,v,d,rfl,⟨z,s,x,y,H⟩,hT⟩
   ·rw [d] at o;have a:Hid (S.takes l=none):=Lib.hid o.out;clear d o;go_wp2_with fail
    go_ret;exact ⟨⟨.inl ⟨a.out,rfl,A5.out.keep ((Below.refl _ _).alloc (Nat.le_refl _) _)⟩,O.out.alloc A5.out.le _⟩,fun c A=>by rw [a.out] at A;cases A⟩
   ·have m:=qt d;rw [d] at o;have a:Hid (S.takes l=S.takesF T I Y):=Lib.hid o.out;obtain ⟨Q,X,U,rfl⟩:=kj z;obtain ⟨W6,D⟩:∃W6:World,w5.alloc (.cells #[.int .i64 I,.slice Q X U] 193)=W6:=⟨_,rfl⟩;have B6:Below w5.heap.size w5 W6:=by rw [←D];exact (Below.refl _ _).alloc (Nat.le_refl _) _
    have P:=Lib.hid (vL j K W q vr _ S T I Y W6 (A5.out.keep B6) u _ (aA z fun g R e _=>ae B6 e) s x y m hT hn);have a2:=Lib.hid (O.out.trans (B6.mono A5.out.le));have i:Hid (∀c,S.takes l=some c→c.Ok):=Lib.hid (fun c A=>Ku u m hT hn (by rw [←a.out];exact A));have a5:=Lib.hid D;clear d o B6 D z s x y H m hT;go_wp2_with fail
    rw [a5.out];refine P.out.mono ?_;rintro e w7 ⟨b,k⟩;have f:=Lib.hid (a2.out.trans k);clear k
    rcases b with ⟨p,rfl,r⟩ | ⟨c,Z,p,rfl,r⟩
    ·go_wp2_with fail
     go_ret;exact ⟨⟨.inl ⟨a.out.trans p,rfl,r⟩,f.out⟩,i.out⟩
    ·go_wp2_with fail
     go_ret;exact ⟨⟨.inr ⟨c,Z,a.out.trans p,rfl,r⟩,f.out⟩,i.out⟩
  ·rw [d] at o;have a:Hid (S.takes l=S.takesG I Y):=Lib.hid o.out;obtain ⟨Q,X,U,rfl⟩:=kj z;obtain ⟨W4,C⟩:∃W4:World,w3.alloc (.cells #[.int .i64 I,.slice Q X U] 193)=W4:=⟨_,rfl⟩;have B4:Below w3.heap.size w3 W4:=by rw [←C];exact (Below.refl _ _).alloc (Nat.le_refl _) _
   have P:=Lib.hid (zz j K W q vr _ S I Y W4 (M.out.keep B4) u (aF (aA z fun g R e _=>ae B4 e)) s x y (by omega));have a1:=Lib.hid (N.out.trans (B4.mono M.out.le));have i:Hid (∀c,S.takes l=some c→c.Ok):=Lib.hid (fun c A=>Kv u (by rw [←a.out];exact A));have a4:=Lib.hid C;clear d o B4 C z s x y H;go_wp2_with fail
   rw [a4.out];refine P.out.mono ?_;rintro e w7 ⟨b,k⟩;have f:=Lib.hid (a1.out.trans k);clear k
   rcases b with ⟨p,rfl,r⟩ | ⟨c,Z,p,rfl,r⟩
   ·go_wp2_with fail
    go_ret;exact ⟨⟨.inl ⟨a.out.trans p,rfl,r⟩,f.out⟩,i.out⟩
   ·go_wp2_with fail
    go_ret;exact ⟨⟨.inr ⟨c,Z,a.out.trans p,rfl,r⟩,f.out⟩,i.out⟩
 ·rw [d] at o;have a:Hid (S.takes l=S.takesM J):=Lib.hid o.out;have t:=rL (oD d);obtain ⟨Q,X,U,rfl⟩:=kj z;obtain ⟨W2,B⟩:∃W2:World,w1.alloc (.cells #[.int .i64 J.id,.int .i64 J.time,.string (bs J.frm),.slice Q X U,.string (bs J.body)] 45)=W2:=⟨_,rfl⟩;have B2:Below w1.heap.size w1 W2:=by rw [←B];exact (Below.refl _ _).alloc (Nat.le_refl _) _
  have P:=Lib.hid (zA j K W q vr S J _ W2 (L.out.keep B2) _ (aA z fun g R e _=>ae B2 e) hz t.1 hn);have a0:=Lib.hid ((B1.out.mono V).trans (B2.mono L.out.le));have i:Hid (∀c,S.takes l=some c→c.Ok):=Lib.hid (fun c A=>Kx u hz t (by rw [←a.out];exact A));have a3:=Lib.hid B;simp only [aY];clear d t B2 B z hz o;go_wp2_with fail
  rw [a3.out];refine P.out.mono ?_;rintro e w7 ⟨b,k⟩;have f:=Lib.hid (a0.out.trans k);clear k
  rcases b with ⟨p,rfl,r⟩ | ⟨c,Z,p,rfl,r⟩
  ·go_wp2_with fail
   go_ret;exact ⟨⟨.inl ⟨a.out.trans p,rfl,r⟩,f.out⟩,i.out⟩
  ·go_wp2_with fail
   go_ret;exact ⟨⟨.inr ⟨c,Z,a.out.trans p,rfl,r⟩,f.out⟩,i.out⟩
def fM (w:World) (pb mb:Nat) (q:Nat→Nat) (S:aa) (k:Nat):Prop:=
 k=pb∨k=mb∨∃i∈S.live,k=q i∨∃C z,w.heap[q i]? =some (.cells C 158 z)∧(C.getD 2 undef).ownBlock=some k
theorem fM.keep {w d:World} {c b:Nat} {q:Nat→Nat} {S:aa} (h:∀i∈S.live,d.heap[q i]? =w.heap[q i]?) {k:Nat} (j:fM d c b q S k):fM w c b q S k:=by
 rcases j with e | e | ⟨i,a,e | ⟨C,z,f,g⟩⟩
 ·exact .inl e
 ·exact .inr (.inl e)
 ·exact .inr (.inr ⟨i,a,.inl e⟩)
 ·exact .inr (.inr ⟨i,a,.inr ⟨C,z,by rw [←h i a];exact f,g⟩⟩)
theorem yA {l g d:Nat} {q:Nat→Nat} {F:Value} {S:aa} {w s j p:World} (B:bh l w g d q F S) (G:Below w.heap.size w s) (h:bh l s g d q F S) {m:aX} {Q:Nat} {v:Value} {x:Int×Int} (A:aL g s j) (_:j.heap[g]? =some (.cells #[F,.int .i64 m.time,.int .i64 ((S.items.length:Int)+1),.map (some d)] 117 (0,0)))
  (H:Below j.heap.size j p) (P:j.heap.size≤Q) (y:dL p Q m.time m.frm v m.body x) (N:p.ownsRow j.heap.size 162 2 v m.tos.length (aR (stay m.tos (List.replicate m.tos.length false)))) (O:1≤m.tos.length):
  aH (fun k=>k=g∨k=d) w (ChangeMaps.setBlock p d (.map (cO (fun i=>if i=S.items.length then Q else q i) (S.live++[S.items.length])) (S.items.length+1)))∧∀k,fM (ChangeMaps.setBlock p d (.map (cO (fun i=>if i=S.items.length then Q else q i) (S.live++[S.items.length])) (S.items.length+1))) g d (fun i=>if i=S.items.length then Q else q i) (S.plus m) k→fM w g d q S k∨w.heap.size≤k:=by
 have t:j.heap[d]? =some (.map (cO q S.live) S.items.length):=aP A h.map (fun e=>by have:=h.map;unfold gh at this;rw [e,h.bag] at this;simp at this);have o:p.heap[d]? =some (.map (cO q S.live) S.items.length):=ae H t;have I:=gd o (.map (cO (fun i=>if i=S.items.length then Q else q i) (S.live++[S.items.length])) (S.items.length+1));have L:j.heap.size=s.heap.size:=A.1;have J:=G.size
 have K:aH (fun k=>k=g∨k=d) w (ChangeMaps.setBlock p d (.map (cO (fun i=>if i=S.items.length then Q else q i) (S.live++[S.items.length])) (S.items.length+1))):=
  (((aH.below G:aH (fun k=>k=g∨k=d) w s).trans (aH.same A) (fun _ _ e=> .inl e)).trans (aH.below H:aH (fun _=>False) _ _) (fun k _ e=>e.elim)).trans (aH.same I) (fun _ _ e=> .inr e)
 refine ⟨K,fun k r=>?_⟩
 rcases r with e | e | ⟨i,n,r⟩
 ·exact .inl (.inl e)
 ·exact .inl (.inr (.inl e))
 ·rw [lz O] at n;simp only [List.mem_append,List.mem_singleton] at n
  rcases n with n | rfl
  ·have E:i≠S.items.length:=by have:=bq n;omega
   obtain ⟨a,R,T,b,c⟩:=B.mail i n
   have M:=K.some_ b (fun e=>by
    unfold dL at b
    rcases e with e | e
    ·rw [e,B.bag] at b;simp at b
    ·have:=B.map;unfold gh at this;rw [e,this] at b;simp at b)
   simp only [if_neg E] at r
   rcases r with e | ⟨C,z,f,u⟩
   ·exact .inl (.inr (.inr ⟨i,n,.inl e⟩))
   ·refine .inl (.inr (.inr ⟨i,n,.inr ⟨C,z,?_,u⟩⟩));rw [M] at f;rw [←f];exact b
  ·simp only [if_true] at r
   right
   rcases r with e | ⟨C,z,f,u⟩
   ·omega
   ·have D:=aP I y (fun e=>by unfold dL at y;rw [e,o] at y;simp at y);rw [D] at f;injection f with f;injection f with f _ _;rw [←f] at u;have:=N.lt k u;omega
theorem wy {c k f:Nat} {q:Nat→Nat} {n:Value} {S:aa} {l b j:World} (h:bh c l k f q n S) {m:aX} {Q:Nat} {v:Value} {x:Int×Int} (o:aL k l b) (_:b.heap[k]? =some (.cells #[n,.int .i64 m.time,.int .i64 ((S.items.length:Int)+1),.map (some f)] 117 (0,0)))
  (p:Below b.heap.size b j) (_:b.heap.size≤Q) (g:dL j Q m.time m.frm v m.body x):
  dL (ChangeMaps.setBlock j f (.map (cO (fun i=>if i=S.items.length then Q else q i) (S.live++[S.items.length])) (S.items.length+1))) Q m.time m.frm v m.body x:=by
 have d:b.heap[f]? =some (.map (cO q S.live) S.items.length):=aP o h.map (fun e=>by have:=h.map;unfold gh at this;rw [e,h.bag] at this;simp at this);have a:j.heap[f]? =some (.map (cO q S.live) S.items.length):=ae p d;exact aP (gd a _) g (fun e=>by unfold dL at g;rw [e,a] at g;simp at g)
theorem rA (f a l:Nat) (q:Nat→Nat) (C:Value) (S:aa) (m:aX) (v:Value) (w:World) (h:bh f w a l q C S) (B:Nat) (Y:w.ownsRow B 9 1 v m.tos.length (aB m.tos)) (Z:dQ m) (z:m.id=S.items.length+1) (X:1≤m.tos.length) (hn:S.items.length < 4294967295):
  Calls Tryz.prog 166 #[.pointer (some ⟨a,0,none⟩),.agg (aY m v)] w fun e I=>e= .returned (.tuple #[])∧∃H,bh f I a l H C (S.plus m)∧aH (fun k=>k=a∨k=l) w I∧(∀k,fM I a l H (S.plus m) k→fM w a l q S k∨w.heap.size≤k)∧(∀i∈S.live,H i=q i)∧∃v',dL I (H S.items.length) m.time m.frm v' m.body (m.time,0):=by
 have K:=Lib.hid h;have HV:=Lib.hid Y;have HZ:=Lib.hid Z;have c:∀o:Obj,(w.alloc o).heap[a]? =some (.cells #[C,.int .i64 S.time,.int .i64 S.items.length,.map (some l)] 117 (0,0)):=fun o=>ae ((Below.refl _ w).alloc (Nat.le_refl _) o) h.bag;have c1:∀o:Obj,(w.alloc o).cell? ⟨a,1,none⟩=some (.int .i64 S.time):=fun o=>by rw [Lib.cell_of_heap (c o)];rfl
 have c2:∀o:Obj,(w.alloc o).cell? ⟨a,2,none⟩=some (.int .i64 S.items.length):=fun o=>by rw [Lib.cell_of_heap (c o)];rfl
 have c3:∀o:Obj,(w.alloc o).cell? ⟨a,3,none⟩=some (.map (some l)):=fun o=>by rw [Lib.cell_of_heap (c o)];rfl
 have f1:∀o:Obj,(w.alloc o).frozen? ⟨a,1,none⟩=false:=fun o=>Lib.frozen_of_heap (c o) 1;have f2:∀o:Obj,(w.alloc o).frozen? ⟨a,2,none⟩=false:=fun o=>Lib.frozen_of_heap (c o) 2;have a0:=Lib.hid c;obtain ⟨s,W⟩:∃s,w.heap.size=s:=⟨_,rfl⟩;have R:a≠s:=by have:=h.pblt;omega
 have N:=Lib.hid W;unfold aY;have y:=Lib.hid z;clear h Y Z c W z;go_enter Tryz.func166,Tryz.ntmps166;go_wp2_with fail
 obtain ⟨b,r⟩:∃b:World,(((w.alloc (.cells #[.int .i64 m.id,.int .i64 m.time,.string (bs m.frm),v,.string (bs m.body)] 45)).setCell ⟨a,2,none⟩ (.int .i64 m.id)).setCell ⟨a,1,none⟩ (.int .i64 m.time))=b:=⟨_,rfl⟩;rw [r];obtain ⟨t,j⟩:∃t:World,w.alloc (.cells #[.int .i64 m.id,.int .i64 m.time,.string (bs m.frm),v,.string (bs m.body)] 45)=t:=⟨_,rfl⟩;have D:Below w.heap.size w t:=by rw [←j];exact (Below.refl _ _).alloc (Nat.le_refl _) _
 have J:bh f t a l q C S:=K.out.keep D;have V:t.heap[w.heap.size]? =some (.cells #[.int .i64 m.id,.int .i64 m.time,.string (bs m.frm),v,.string (bs m.body)] 45 (0,0)):=by rw [←j];exact heap_alloc_new w _
 have E:aL a t b:=by rw [←r,j];exact ((aL.refl a t).setCell _).setCell _
 have P:b.heap[a]? =some (.cells #[C,.int .i64 m.time,.int .i64 ((S.items.length:Int)+1),.map (some l)] 117 (0,0)):=by
  rw [←r,j];have:=heap_setCell_same _ a 1 _ _ (.int .i64 m.time) (heap_setCell_same t a 2 _ _ (.int .i64 m.id) J.bag);refine Eq.trans this ?_;rw [y.out];rfl
 have u:b.heap[w.heap.size]? =some (.cells #[.int .i64 m.id,.int .i64 m.time,.string (bs m.frm),v,.string (bs m.body)] 45 (0,0)):=aP E V (by rw [N.out];exact fun e=>R e.symm);have d3:b.drew.cell? ⟨a,3,none⟩=some (.map (some l)):=by show b.cell? _=_;rw [Lib.cell_of_heap P];rfl
 have e0:b.drew.cell? ⟨w.heap.size,0,none⟩=some (.int .i64 m.id):=by show b.cell? _=_;rw [Lib.cell_of_heap u];rfl
 have e1:b.drew.cell? ⟨w.heap.size,1,none⟩=some (.int .i64 m.time):=by show b.cell? _=_;rw [Lib.cell_of_heap u];rfl
 have e2:b.drew.cell? ⟨w.heap.size,2,none⟩=some (.string (bs m.frm)):=by show b.cell? _=_;rw [Lib.cell_of_heap u];rfl
 have e3:b.drew.cell? ⟨w.heap.size,3,none⟩=some v:=by show b.cell? _=_;rw [Lib.cell_of_heap u];rfl
 have e4:b.drew.cell? ⟨w.heap.size,4,none⟩=some (.string (bs m.body)):=by show b.cell? _=_;rw [Lib.cell_of_heap u];rfl
 have A:bg b.drew v m.tos.length 1 (aB m.tos):=aF (aA HV.out fun g a1 e _=>aP (E.drew) (ae D e) (fun e'=>by rw [e',K.out.bag] at e;simp at e));have M:=Lib.hid (rN m v b.drew A HZ.out);have d:=Lib.hid (show b.drew.heap[a]? =_ from P);have p:=Lib.hid E.drew;have n:=Lib.hid J;have O:=Lib.hid (show b.drew.heap[w.heap.size]? =_ from u);have L:=Lib.hid D;clear c1 c2 c3 f1 f2 r j P E J u V D A
 go_region_law (first
  | (go_simp;go_at_call 220;refine M.out.mono ?_;rintro e w2 ⟨Q,g,rfl,F,G,T,x⟩;have a2:w2.cell? ⟨a,3,none⟩=some (.map (some l)):=(by rw [Lib.cell_of_heap (ae x d.out)];rfl);have a3:w2.cell? ⟨w.heap.size,0,none⟩=some (.int .i64 m.id):=(by rw [Lib.cell_of_heap (ae x O.out)];rfl);have a4:=D7 (Q:=Q) n.out p.out d.out x y.out hn;have HR:=Lib.hid (n.out.added p.out d.out x G F T X);have U:=Lib.hid (yA K.out L.out n.out p.out d.out x G F T X);have HN:=Lib.hid (wy n.out p.out d.out x G F);clear F G T x))
 all_goals
  refine bodyPost_end (results_none rfl _ _ _) rfl ?_;exact ⟨rfl,_,HR.out,U.out.1,U.out.2,fun i hi=>if_neg (by have:=bq hi;omega),_,by rw [if_pos rfl];exact HN.out⟩
theorem cR {a d c:Nat} {q:Nat→Nat} {l:Value} {S:aa} {w e:World} (h:bh a w d c q l S) (f:Below w.heap.size w e) {k:Nat} (j:fM e d c q S k):fM w d c q S k:=
 fM.keep (fun i g=>f.block _ (by obtain ⟨_,_,_,b,_⟩:=h.mail i g;exact ah b)) j
def lq (w w':World) (q:Nat→Nat) (L:List Nat):Prop:=
 ∀i∈L,∀C,w.heap[q i]? =some (.cells C 158 (0,0))→∃C',w'.heap[q i]? =some (.cells C' 158 (0,0))∧C'[4]? =C[4]? ∧C'[5]? =C[5]?
structure eZ (pb mb:Nat) (q q':Nat→Nat) (S S':aa) (w w':World):Prop where
 chg:aH (fM w pb mb q S) w w'
 own:∀k,fM w' pb mb q' S' k→fM w pb mb q S k∨w.heap.size≤k
theorem eZ.trans {b a:Nat} {q g i:Nat→Nat} {S c d:aa} {w j l:World} (h:eZ b a q g S c w j) (f:eZ b a g i c d j l):eZ b a q i S d w l:=
 ⟨h.chg.trans f.chg (fun k m e=>(h.own k e).elim id (fun e=>by omega)),fun k e=>(f.own k e).elim (h.own k) (fun e=> .inr (Nat.le_trans h.chg.size e))⟩
theorem eZ.after {a d c:Nat} {q g:Nat→Nat} {l:Value} {S f:aa} {w i j:World} (h:bh a w d c q l S) (b:Below w.heap.size w i) (t:eZ d c q g S f i j):eZ d c q g S f w j:=
 ⟨(aH.below b).trans t.chg (fun _ _ e=>cR h b e),fun k e=>(t.own k e).imp (cR h b) (fun e=>Nat.le_trans b.size e)⟩
theorem eZ.refl {pb a:Nat} {q:Nat→Nat} {S:aa} {w:World}:eZ pb a q q S S w w:=⟨aH.refl _ _,fun _ e=> .inl e⟩
theorem lq.after {q:Nat→Nat} {L:List Nat} {w a b:World} (d:Below w.heap.size w a) (h:lq a b q L):lq w b q L:=fun i e C c=>h i e C (ae d c)
theorem lq.trans {q:Nat→Nat} {L a:List Nat} {w c d:World} (h:lq w c q L) (g:lq c d q a) (r:∀i∈a,i∈L):lq w d q a:=fun i b C p=>by
 obtain ⟨e,j,l,m⟩:=h i (r i b) C p;obtain ⟨f,k,n,o⟩:=g i b e j;exact ⟨f,k,n.trans l,o.trans m⟩
def jk (w:World) (q:Nat→Nat) (L:List Nat) (D:Nat→Int×Int):Prop:=
 ∀i∈L,∃C,w.heap[q i]? =some (.cells C 158 (0,0))∧C[4]? =some (.int .i64 (D i).1)∧C[5]? =some (.int .i64 (D i).2)
def sH (n T:Nat) (D:Nat→Int×Int) (i:Nat):Int×Int:=if i < n then D i else (T,0)
theorem lq.due {w c:World} {q:Nat→Nat} {L a:List Nat} {D:Nat→Int×Int} (h:lq w c q a) (n:∀i∈a,i∈L) (m:jk w q L D):jk c q a D:=fun i b=>by
 obtain ⟨C,e,g,j⟩:=m i (n i b);obtain ⟨d,f,k,l⟩:=h i b C e;exact ⟨d,f,k.trans g,l.trans j⟩
theorem jk.below {w a:World} {q:Nat→Nat} {L:List Nat} {D:Nat→Int×Int} (f:jk w q L D) (e:Below w.heap.size w a):jk a q L D:=fun i g=>by
 obtain ⟨C,b,c,d⟩:=f i g;exact ⟨C,ae e b,c,d⟩
theorem jk.new {w:World} {q:Nat→Nat} {L:List Nat} {D:Nat→Int×Int} {n T:Nat} (f:jk w q L D) (b:∀i∈L,i < n):jk w q L (sH n T D):=fun i a=>by
 obtain ⟨C,c,d,e⟩:=f i a;exact ⟨C,c,by unfold sH;rw [if_pos (b i a)];exact d,by unfold sH;rw [if_pos (b i a)];exact e⟩
theorem ym {c j m T:Nat} {q:Nat→Nat} {r:Value} {S:aa} {w d:World} (h:bh c w j m q r S) (l:aL j w d):eZ j m q q S ⟨S.items,T⟩ w d∧lq w d q S.live:=by
 have a:∀i∈S.live,d.heap[q i]? =w.heap[q i]? :=fun i b=>by
  obtain ⟨_,v,x,f,_⟩:=h.mail i b;exact l.2 _ (fun e=>by unfold dL at f;rw [e,h.bag] at f;simp at f)
 refine ⟨⟨(aH.same l).mono (fun _ _ e=> .inl e),fun k g=> .inl ?_⟩,fun i b C p=>⟨C,(a i b).trans p,rfl,rfl⟩⟩
 rcases g with e | e | ⟨i,b,g⟩
 ·exact .inl e
 ·exact .inr (.inl e)
 ·refine .inr (.inr ⟨i,b,g.imp id ?_⟩);rintro ⟨C,z,n,o⟩;exact ⟨C,z,by rw [←a i b];exact n,o⟩
theorem zU {c f b:Nat} {q g:Nat→Nat} {B:Value} {S:aa} {m:aX} {w j:World} (h:bh c w f b q B S) (A:1≤m.tos.length) (n:aH (fun k=>k=f∨k=b) w j) (y:∀k,fM j f b g (S.plus m) k→fM w f b q S k∨w.heap.size≤k) (z:∀i∈S.live,g i=q i) (u:∃p,dL j (g S.items.length) m.time m.frm p m.body (m.time,0)):
  eZ f b q g S (S.plus m) w j∧∀D,jk w q S.live D→jk j g (S.plus m).live (sH S.items.length m.time D):=by
 refine ⟨⟨n.mono (fun _ _ e=>e.imp id .inl),y⟩,fun D t i a=>?_⟩;rw [lz A,List.mem_append,List.mem_singleton] at a
 rcases a with a | rfl
 ·obtain ⟨C,d,r,s⟩:=t i a;obtain ⟨_,v,x,l,_⟩:=h.mail i a;have o:=bq a;refine ⟨C,?_,by unfold sH;rw [if_pos o];exact r,by unfold sH;rw [if_pos o];exact s⟩
  rw [z i a];refine n.some_ d (fun e=>?_)
  rcases e with e | e
  ·rw [e,h.bag] at d;simp at d
  ·rw [e,show w.heap[b]? =_ from h.map] at d;simp at d
 ·obtain ⟨p,l⟩:=u;exact ⟨_,l,by unfold sH;rw [if_neg (Nat.lt_irrefl _)];rfl,by unfold sH;rw [if_neg (Nat.lt_irrefl _)];rfl⟩
def fR (base pb mb:Nat) (q:Nat→Nat) (vr:Value) (S S':aa) (T:Nat) (w:World) (e:Ending) (w':World):Prop:=
 e= .returned (.bool true)∧∃q',bh base w' pb mb q' vr S'∧eZ pb mb q q' S S' w w'∧∀D,jk w q S.live D→jk w' q' S'.live (sH S.items.length T D)
theorem fR.after {a c b T:Nat} {q:Nat→Nat} {d:Value} {S f:aa} {w j i:World} {e:Ending} (h:bh a w c b q d S) (g:Below w.heap.size w j) (t:fR a c b q d S f T j e i):fR a c b q d S f T w e i:=by
 obtain ⟨k,p,l,m,n⟩:=t;exact ⟨k,p,l,eZ.after h g m,fun D o=>n D (o.below g)⟩
class Kn where
 D0:Nat→Int×Int
 n0:Nat
 tk:Value
def bV [Kn] (S:aa) (i:Nat):Int×Int:=if i < Kn.n0 then Kn.D0 i else ((S.mailOf i).time,0)
theorem lH:∀(k n:Nat),az (k+1) n=UInt8.ofNat (n / 256 ^ k)::az k n
 | 0,n=>by simp [az]
 | k+1,n=>by
  rw [az,lH k (n / 256),Nat.div_div_eq_div_mul,←Nat.pow_succ',az];rfl
theorem tM:∀(a n k:Nat) (h:k < a),(az a n)[k]'(by rw [bf];exact h)=UInt8.ofNat (n / 256 ^ (a - 1 - k))
 | 0,n,k,h=>by omega
 | a+1,n,0,h=>by simp [lH]
 | a+1,n,k+1,h=>by
  simp only [lH,List.getElem_cons_succ];rw [tM a n k (by omega)]
  congr 3
  omega
theorem dF (v:Value) (l:List UInt8) (n a:Nat) (w:World) (h:dT w v l) (X:l.length≤1073741824) (_:n≤4294967295) (Y:1≤a∧a≤4):
  Calls Tryz.prog 174 #[v,.int .i64 n,.int .i64 a] w fun e q=>∃D,e= .returned D∧dT q D (l++az a n)∧aH (fun k=>v.ownBlock=some k) w q∧∀k,D.ownBlock=some k→v.ownBlock=some k∨w.heap.size≤k:=by
 have M:=Lib.hid h;clear h;go_enter Tryz.func174,Tryz.ntmps174;go_wp2_with fail
 go_loopw [0,7] (fun b C q=>∃k:Nat,k≤a∧C= .int .i64 (8 * ((a:Int) - k) - 8)∧Hid (dT q b (l++(az a n).take k))∧Hid (aH (fun j=>v.ownBlock=some j) w q)∧Hid (∀j,b.ownBlock=some j→v.ownBlock=some j∨w.heap.size≤j)) (fun _ C _=>((intOf C)+8).toNat)
 case atStart=>
  refine ⟨0,Nat.zero_le _,congrArg (Value.int .i64) (by omega),Lib.hid ?_,Lib.hid (aH.refl _ _),Lib.hid (fun _ e=> .inl e)⟩;rw [List.take_zero,List.append_nil];exact M.out
 case round=>
  obtain ⟨k,V,rfl,m,r,t⟩:=hrel
  by_cases o:k < a
  ·obtain ⟨f,p⟩:∃f:Nat,8 * (a - k) - 8=f:=⟨_,rfl⟩;have O:(8 * ((a:Int) - k) - 8)=(f:Int):=by omega
   rw [O];have K:f≤24:=by omega
   have B:((UInt8.ofNat (n / 2 ^ f)).toNat:Int)=(n:Int) / 2 ^ f % 256:=by
    rw [UInt8.toNat_ofNat'];rfl
   have d:(az a n).take (k+1)=(az a n).take k++[UInt8.ofNat (n / 2 ^ f)]:=by
    rw [List.take_succ_eq_append_getElem (by rw [bf];exact o)]
    congr 2
    rw [tM a n k o,←p]
    congr 2
    rw [show (256:Nat)=2 ^ 8 from rfl,←Nat.pow_mul]
    congr 1
    omega
   obtain ⟨g,c⟩:∃g,l++(az a n).take k=g:=⟨_,rfl⟩;have Q:g.length≤1073741828:=by rw [←c,List.length_append,List.length_take];omega
   have N:Hid (l++(az a n).take (k+1)=g++[UInt8.ofNat (n / 2 ^ f)]):=Lib.hid (by rw [d,←List.append_assoc,c]);rw [c] at m;obtain ⟨T,U,P⟩:=m.out.len;subst P;have z:=heap_alloc_new wr (.cells #[.int .u8 ((n:Int) / 2 ^ f % 256)] 5);rw [←B] at z;obtain ⟨H,L,I,S,i,G,E,F⟩:=m.out.one (UInt8.ofNat (n / 2 ^ f)) (W:=wr.alloc (.cells #[.int .u8 ((UInt8.ofNat (n / 2 ^ f)).toNat:Int)] 5)) ((Below.refl _ _).alloc (Nat.le_refl _) _) z (by omega);rw [B] at i;have x:=Lib.hid i;have y:=Lib.hid G;have s:=Lib.hid (r.out.trans E (fun j R e=>(t.out j e).elim id (fun e=>absurd R (by omega))));have u:Hid (∀j,(Value.slice H L I).ownBlock=some j→v.ownBlock=some j∨w.heap.size≤j):=Lib.hid (fun j e=>(F j e).elim (t.out j) (fun e=> .inr (Nat.le_trans r.out.size e)));clear B d c p z i G E F
   go_wp2_with (first
    | (at_builtin;refine bB rfl _ _ 114 rfl _ _ (.slice H L I) S rfl rfl x.out ?_)
    | fail)
   exact ⟨⟨k+1,by omega,congrArg (Value.int .i64) (by omega),by rw [N.out];exact y,s,u⟩,by simp [intOf];omega⟩
  ·have A:k=a:=by omega
   subst A;have J:¬(0:Int)≤8 * ((k:Int) - k) - 8:=by omega
   rw [List.take_of_length_le (by rw [bf];exact Nat.le_refl _)] at m;go_wp2_with fail
   go_ret;exact ⟨_,rfl,m.out,r.out,t.out⟩
theorem kX (v:Value) (l t:List UInt8) (a:Nat) (w:World) (h:dT w v l) (M:l.length≤536870912) (N:t.length≤1048576) (H:1≤a∧a≤4):
  Calls Tryz.prog 263 #[v,.string (bs t),.int .i64 a] w fun e C=>∃r,e= .returned r∧dT C r (l++(az a t.length++t))∧aH (fun k=>v.ownBlock=some k) w C∧∀k,r.ownBlock=some k→v.ownBlock=some k∨w.heap.size≤k:=by
 have I:=aG t;have D:=Lib.hid (dF v l t.length a w h (by omega) (by omega) H);obtain ⟨E,F,rfl⟩:=h.len;clear h;go_enter Tryz.func263,Tryz.ntmps263;go_wp2_with fail
 refine D.out.mono ?_;rintro e P ⟨O,rfl,f,o,p⟩;have q:(l++az a t.length).length≤536870916:=by rw [List.length_append,bf];omega
 have s:Hid (l++(az a t.length++t)=(l++az a t.length)++t):=Lib.hid (List.append_assoc ..).symm;obtain ⟨b,c⟩:∃b,l++az a t.length=b:=⟨_,rfl⟩;rw [c] at f q s;obtain ⟨z,B,A,J,d,y,u,x⟩:=f.text t (by omega);obtain ⟨K,L,rfl⟩:=f.len;have m:=Lib.hid d;have n:=Lib.hid y;have g:=Lib.hid (o.trans u (fun j G e=>(p j e).elim id (fun e=>absurd G (by omega))));have i:Hid (∀j,(Value.slice z B A).ownBlock=some j→(Value.slice E l.length F).ownBlock=some j∨w.heap.size≤j):=Lib.hid (fun j e=>(x j e).elim (p j) (fun e=> .inr (Nat.le_trans o.size e)));clear f o p d y u x
 go_wp2_with (first
  | (at_builtin;refine iX rfl _ _ 114 9 rfl _ (.slice z B A) (bs t) J rfl rfl m.out ?_)
  | fail)
 go_ret;exact ⟨_,rfl,by rw [s.out];exact n.out,g.out,i.out⟩
theorem rQ (t:List UInt8) (w:World) (c:t.length≤1073741824):
  Calls Tryz.prog 234 #[.string (bs t)] w fun e b=>e= .returned (.int .i64 ((8+t.length:Nat):Int))∧w=b:=by
 have a:=aG t;go_enter Tryz.func234,Tryz.ntmps234;go_wp2_with fail
 go_ret;exact ⟨by congr 1,rfl⟩
theorem JT (l:List UInt8):sV l≤4294967295:=by unfold sV;omega
theorem F9 (t:List UInt8) (w:World) (Q:t.length≤1048576):
  Calls Tryz.prog 173 #[.string (bs t)] w fun e B=>e= .returned (.string (bs (bJ t)))∧Below w.heap.size w B:=by
 have K:=aG t;have F:=Lib.hid (dF (.slice none 0 0) [] t.length 4 w (dT.nil w) (by simp) (by omega) (by omega));have v:Hid (∀W:World,Calls Tryz.prog 113 #[.string (bs t)] W fun e B=>e= .returned (.int .u32 (sV t))∧W=B):=Lib.hid (fun W=>vA (bs t) W (by unfold maxLen;omega));have q:=JT t;obtain ⟨j,g⟩:∃j,sV t=j:=⟨_,rfl⟩;rw [g] at v q;have x:Hid (bJ t=(az 4 t.length++az 4 j)++t):=Lib.hid (by unfold bJ;rw [g,List.append_assoc]);clear g;go_enter Tryz.func173,Tryz.ntmps173;go_wp2_with fail
 refine F.out.mono ?_;rintro e C ⟨R,rfl,n,h,G⟩;have o:([]++az 4 t.length).length≤4:=by rw [List.nil_append,bf];exact Nat.le_refl _
 rw [List.nil_append] at n o;obtain ⟨b,d⟩:∃b,az 4 t.length=b:=⟨_,rfl⟩;rw [d] at n o x;obtain ⟨M,O,rfl⟩:=n.len;have z:=Lib.hid n;have D:Below w.heap.size w C:=⟨h.still.1,h.still.2.1,h.still.2.2,h.size,fun k A=>h.block k A (fun e=>by cases e)⟩;have m:=Lib.hid D;have y:=Lib.hid G;clear n h G D;go_wp2_with fail
 refine (v.out C).mono ?_;rintro e T ⟨rfl,rfl⟩;have l:=Lib.hid (dF _ b j 4 C z.out (by omega) q (by omega));clear d F v;go_wp2_with fail
 refine l.out.mono ?_;rintro e L ⟨S,rfl,r,i,I⟩;have p:(b++az 4 j).length≤8:=by rw [List.length_append,bf];omega
 obtain ⟨a,c⟩:∃a,b++az 4 j=a:=⟨_,rfl⟩;rw [c] at r p x;have H:=aG a;have J:=r.string;obtain ⟨N,P,rfl⟩:=r.len;have f:bs a++bs t=bs (a++t):=(cE a t).symm;have s:=Lib.hid f
 have E:Below w.heap.size w L:=by
  refine m.out.trans ⟨i.still.1,i.still.2.1,i.still.2.2,i.size,fun k A=>i.block k (Nat.lt_of_lt_of_le A m.out.size) (fun e=>?_)⟩
  rcases y.out k e with e | e
  ·cases e
  ·omega
 have u:=Lib.hid E;clear r i I c E f l;go_wp2_with fail
 go_ret;exact ⟨by rw [x.out,←s.out];rfl,u.out⟩
theorem yF {A:Nat→Prop} {B:Nat} {a b:World} (h:aH A a b) (c:∀k,A k→B≤k) (d:B≤a.heap.size):Below B a b:=
 ⟨h.still.1,h.still.2.1,h.still.2.2,h.size,fun k f=>h.block k (by omega) (fun e=>by have:=c k e;omega)⟩
structure WR (B:Nat) (w w':World) (v:Value) (acc:List UInt8):Prop where
 row:dT w' v acc
 own:∀k,v.ownBlock=some k→B≤k
 below:Below B w w'
theorem WR.le {B:Nat} {w b:World} {v:Value} {a:List UInt8} (h:WR B w b v a) (c:B≤w.heap.size):B≤b.heap.size:=Nat.le_trans c h.below.size
theorem WR.step {B:Nat} {w w' b:World} {v d:Value} {c a:List UInt8} (h:WR B w w' v c) (f:B≤w.heap.size) (j:dT b d a) (g:aH (fun k=>v.ownBlock=some k) w' b) (i:∀k,d.ownBlock=some k→v.ownBlock=some k∨w'.heap.size≤k):WR B w b d a:=
 ⟨j,fun k e=>(i k e).elim (h.own k) (fun e=>Nat.le_trans (h.le f) e),h.below.trans (yF g h.own (h.le f))⟩
theorem vV (l:List (List UInt8)) (h:∀t∈l,t.length≤255):(eE l).length≤256 * l.length:=by
 induction l with
 | nil=>simp [eE]
 | cons t l ih=>
  have b:=ih (fun x a=>h x (List.mem_cons_of_mem _ a));have c:=h t (List.mem_cons_self ..);have e:eE (t::l)=jC t++eE l:=by simp [eE]
  rw [e,List.length_append,jC,List.length_append,bf,List.length_cons];omega
theorem oH (n d:Nat) (f:List UInt8) (a:List (List UInt8)) (c:List UInt8) (v:Value) (w:World) (h:bg w v a.length 1 (aB a)) (hz:dQ ⟨n,d,f,a,c⟩):
  Calls Tryz.prog 233 #[.agg #[.int .i64 n,.int .i64 d,.string (bs f),v,.string (bs c)]] w fun e w'=>e= .returned (.string (bs (cA ⟨n,d,f,a,c⟩)))∧Below w.heap.size w w':=by
 obtain ⟨z1,z2,z3,z4,z5,z6⟩:=hz;simp only at z1 z2 z3 z4 z5 z6;obtain ⟨L,M,rfl,p⟩:=h.one;have HV:=Lib.hid p;have Q:=Lib.hid z5;obtain ⟨m,q⟩:∃m:World,w.alloc (.cells #[.int .i64 n,.int .i64 d,.string (bs f),.slice L a.length M,.string (bs c)] 45)=m:=⟨_,rfl⟩;have B0:Below w.heap.size w m:=by rw [←q];exact (Below.refl _ _).alloc (Nat.le_refl _) _
 have X0:m.heap[w.heap.size]? =some (.cells #[.int .i64 n,.int .i64 d,.string (bs f),.slice L a.length M,.string (bs c)] 45 (0,0)):=by rw [←q];exact heap_alloc_new w _
 have b7:m.heap.size=w.heap.size+1:=by rw [←q];simp
 have a8:=Lib.run_convert_bytes_const (P:=Tryz.prog) m 114 5 #[.int .u8 77] 1 1 Tryz.underlying114 Tryz.underlying5;have B1:Below m.heap.size m (m.alloc (.cells #[.int .u8 77] 5 (1,2))):=(Below.refl _ _).alloc (Nat.le_refl _) _;have R1:dT (m.alloc (.cells #[.int .u8 77] 5 (1,2))) (.slice (some ⟨m.heap.size,0,none⟩) 1 1) [77]:= .inr ⟨m.heap.size,1,#[.int .u8 77],(1,2),rfl,heap_alloc_new m _,.inr (Nat.le_refl _),Nat.le_refl _,by unfold maxLen;decide,rfl,rfl⟩
 obtain ⟨U,J⟩:∃U:World,m.alloc (.cells #[.int .u8 77] 5 (1,2))=U:=⟨_,rfl⟩;rw [show (#[Value.int .u8 77]:Array Value).size=1 from rfl,J] at a8;rw [J] at R1 B1;rw [b7] at a8 R1;have S1:WR (w.heap.size+1) m U (.slice (some ⟨w.heap.size+1,0,none⟩) 1 1) [77]:=⟨R1,fun k e=>by injection e with e;have e:w.heap.size+1=k:=e;omega,B1.mono (by omega)⟩
 have hf:=aG f;have d3:=aG c;have d2:=Lib.hid X0;have N:=Lib.hid B0;have d1:=Lib.hid q;have y:=Lib.hid S1;have u:∀{W:World},Below (w.heap.size+1) m W→W.heap[w.heap.size]? =some (.cells #[.int .i64 n,.int .i64 d,.string (bs f),.slice L a.length M,.string (bs c)] 45 (0,0)):=fun hb=>(hb.block _ (by omega)).trans X0;have K:Hid (∀W:World,Below (w.heap.size+1) m W→W.heap[w.heap.size]? =some (.cells #[.int .i64 n,.int .i64 d,.string (bs f),.slice L a.length M,.string (bs c)] 45 (0,0))):=Lib.hid (fun W hb=>u hb);have i0:U.cell? ⟨w.heap.size,0,none⟩=some (.int .i64 n):=by rw [Lib.cell_of_heap (K.out _ S1.below)];rfl
 clear h p z5 X0 B0 R1 B1 S1 u J;go_enter Tryz.func233,Tryz.ntmps233;go_wp2_with fail
 refine (dF _ [77] n 4 U y.out.row (by simp) z1 (by omega)).mono ?_;rintro e w2 ⟨v2,rfl,R2,K2,O2⟩;have Y:([77]++az 4 n).length≤5:=by rw [List.length_append];simp only [bf,List.length_cons,List.length_nil];omega
 obtain ⟨A2,E⟩:∃A,[77]++az 4 n=A:=⟨_,rfl⟩;rw [E] at R2 Y;have S2:=y.out.step (by omega) R2 K2 O2;obtain ⟨a2,c2,rfl⟩:=R2.len;have z:=Lib.hid S2;have b0:=Lib.hid E;have i2:w2.cell? ⟨w.heap.size,1,none⟩=some (.int .i64 d):=by rw [Lib.cell_of_heap (K.out _ S2.below)];rfl
 clear R2 K2 O2 S2 E y;go_wp2_with fail
 refine (dF _ A2 d 4 w2 z.out.row (by omega) z2 (by omega)).mono ?_;rintro e w3 ⟨v3,rfl,R3,K3,O3⟩;have Z:(A2++az 4 d).length≤9:=by rw [List.length_append];simp only [bf];omega
 obtain ⟨A3,F⟩:∃A,A2++az 4 d=A:=⟨_,rfl⟩;rw [F] at R3 Z;have S3:=z.out.step (by omega) R3 K3 O3;obtain ⟨a3,c3,rfl⟩:=R3.len;have B:=Lib.hid S3;have b1:=Lib.hid F;have i3:w3.cell? ⟨w.heap.size,2,none⟩=some (.string (bs f)):=by rw [Lib.cell_of_heap (K.out _ S3.below)];rfl
 clear R3 K3 O3 S3 F z;go_wp2_with fail
 refine (kX _ A3 f 1 w3 B.out.row (by omega) (by omega) (by omega)).mono ?_;rintro e w4 ⟨v4,rfl,R4,K4,O4⟩;have a0:(A3++(az 1 f.length++f)).length≤300:=by rw [List.length_append];simp only [List.length_append,bf];omega
 obtain ⟨A4,G⟩:∃A,A3++(az 1 f.length++f)=A:=⟨_,rfl⟩;rw [G] at R4 a0;have S4:=B.out.step (by omega) R4 K4 O4;obtain ⟨a4,c4,rfl⟩:=R4.len;have C:=Lib.hid S4;have b2:=Lib.hid G;have i4:w4.cell? ⟨w.heap.size,3,none⟩=some (.slice L a.length M):=by rw [Lib.cell_of_heap (K.out _ S4.below)];rfl
 clear R4 K4 O4 S4 G B;go_wp2_with fail
 refine (dF _ A4 a.length 1 w4 C.out.row (by omega) (by omega) (by omega)).mono ?_;rintro e w5 ⟨v5,rfl,R5,K5,O5⟩;have a1:(A4++az 1 a.length).length≤301:=by rw [List.length_append];simp only [bf];omega
 obtain ⟨A5,H⟩:∃A,A4++az 1 a.length=A:=⟨_,rfl⟩;rw [H] at R5 a1;have S5:=C.out.step (by omega) R5 K5 O5;obtain ⟨a5,c5,rfl⟩:=R5.len;have b4:=Lib.hid S5;have b3:=Lib.hid H;have i5:w5.cell? ⟨w.heap.size,3,none⟩=some (.slice L a.length M):=by rw [Lib.cell_of_heap (K.out _ S5.below)];rfl
 clear R5 K5 O5 S5 H C;go_wp2_with fail
 go_loopw [3,28] (fun b i w'=>∃k:Nat,k≤a.length∧i= .int .i64 k∧Hid (WR (w.heap.size+1) m w' b (A5++eE (a.take k)))) (fun _ i _=>a.length - (intOf i).toNat)
 case atStart=>
  refine ⟨0,Nat.zero_le _,rfl,Lib.hid ?_⟩;rw [List.take_zero,show eE []=[] from rfl,List.append_nil];exact b4.out
 case round=>
  obtain ⟨k,hk,rfl,o⟩:=hrel
  have b8:(eE (a.take k)).length≤256 * k:=by
   have:=vV (a.take k) (fun t ht=>Q.out t (List.mem_of_mem_take ht));rw [List.length_take] at this;omega
  by_cases r:k < a.length
  ·have c9:(k:Int) < (a.length:Int):=by omega
   obtain ⟨g,c8,rfl,b5,c0⟩:=HV.out k r;rw [eh a k r] at c0;have d0:wr.cell? ⟨g,c8+k,none⟩=some (.string (bs a[k])):=((N.out.trans (o.out.below.mono (by omega))).cell (by exact b5)).trans c0;have HT:Hid (eE (a.take (k+1))=eE (a.take k)++jC a[k]):=Lib.hid (BT a k r);have c1:=Q.out a[k] (List.getElem_mem r);obtain ⟨t,et⟩:∃t,a[k]=t:=⟨_,rfl⟩;rw [et] at d0 HT c1;obtain ⟨l,j⟩:∃l,A5++eE (a.take k)=l:=⟨_,rfl⟩;have X:l.length≤301+256 * k:=by rw [←j,List.length_append];omega
   have HN:Hid (A5++eE (a.take (k+1))=l++(az 1 t.length++t)):=Lib.hid (by rw [HT.out,←List.append_assoc,j];rfl);rw [j] at o;obtain ⟨a6,c6,I⟩:=o.out.row.len;subst I;have x:=Lib.hid (kX _ l t 1 wr o.out.row (by omega) (by omega) (by omega));clear c0 et j HT;go_wp2_with fail
   refine x.out.mono ?_;rintro e w7 ⟨v7,rfl,s,R,S⟩;have T:=o.out.step (by omega) s R S;have D:=Lib.hid T;clear s R S T;go_wp2_with fail
   exact ⟨⟨k+1,by omega,by go_num,by rw [HN.out];exact D⟩,by simp [intOf];omega⟩
  ·have b6:k=a.length:=by omega
   subst b6;rw [List.take_length] at o b8;obtain ⟨l,j⟩:∃l,A5++eE a=l:=⟨_,rfl⟩;have X:l.length≤301+256 * a.length:=by rw [←j,List.length_append];omega
   rw [j] at o
   have hE:cA ⟨n,d,f,a,c⟩=l++(az 2 c.length++c):=by
    rw [←j,←b3.out,←b2.out,←b1.out,←b0.out];simp [cA,jC]
   obtain ⟨a6,c6,I⟩:=o.out.row.len;subst I;have i6:wr.cell? ⟨w.heap.size,4,none⟩=some (.string (bs c)):=by rw [Lib.cell_of_heap (K.out _ o.out.below)];rfl
   have x:=Lib.hid (kX _ l c 2 wr o.out.row (by omega) (by omega) (by omega));have O:=Lib.hid hE;clear j hE;go_wp2_with fail
   refine x.out.mono ?_;rintro e w7 ⟨v7,rfl,s,R,S⟩;have T:=o.out.step (by omega) s R S;have a9:=s.string;obtain ⟨A7,V⟩:∃A,l++(az 2 c.length++c)=A:=⟨_,rfl⟩;rw [V] at a9 O s;obtain ⟨a7,c7,rfl⟩:=s.len;have D:=Lib.hid T;clear s R S T V;go_wp2_with fail
   go_ret;exact ⟨by rw [O.out];rfl,N.out.trans (D.out.below.mono (by omega))⟩
theorem vP (a d l:Nat) (q:Nat→Nat) (n:Value) (S:aa) (m:aX) (v:Value) (w:World) (h:bh a w d l q n S) (B:Nat) (u:w.ownsRow B 9 1 v m.tos.length (aB m.tos)) (L:dQ m) (t:1≤m.tos.length) (K:S.items.length < 4294967295) (s:m.id=S.items.length+1) (J:S.time≤m.time):
  Calls Tryz.prog 115 #[.pointer (some ⟨d,0,none⟩),.agg (aY m v)] w (fR a d l q n S (S.plus m) m.time w):=by
 obtain ⟨b,c⟩:∃b:World,w.alloc (.cells #[.int .i64 m.id,.int .i64 m.time,.string (bs m.frm),v,.string (bs m.body)] 45)=b:=⟨_,rfl⟩;have k:Below w.heap.size w b:=by rw [←c];exact (Below.refl _ _).alloc (Nat.le_refl _) _
 have j:bh a b d l q n S:=h.keep k;have f:b.heap[w.heap.size]? =some (.cells #[.int .i64 m.id,.int .i64 m.time,.string (bs m.frm),v,.string (bs m.body)] 45 (0,0)):=by rw [←c];exact heap_alloc_new w _
 have N:b.cell? ⟨d,1,none⟩=some (.int .i64 S.time):=by rw [Lib.cell_of_heap j.bag];rfl
 have O:b.cell? ⟨d,2,none⟩=some (.int .i64 S.items.length):=by rw [Lib.cell_of_heap j.bag];rfl
 have P:b.cell? ⟨w.heap.size,0,none⟩=some (.int .i64 m.id):=by rw [Lib.cell_of_heap f];rfl
 have Q:b.cell? ⟨w.heap.size,1,none⟩=some (.int .i64 m.time):=by rw [Lib.cell_of_heap f];rfl
 have R:b.cell? ⟨w.heap.size,2,none⟩=some (.string (bs m.frm)):=by rw [Lib.cell_of_heap f];rfl
 have T:b.cell? ⟨w.heap.size,3,none⟩=some v:=by rw [Lib.cell_of_heap f];rfl
 have U:b.cell? ⟨w.heap.size,4,none⟩=some (.string (bs m.body)):=by rw [Lib.cell_of_heap f];rfl
 have A:=Lib.hid h;have i:=Lib.hid j;have o:=Lib.hid k;have p:=Lib.hid c;have C:=Lib.hid (aA u fun g r e _=>ae k e);have D:=Lib.hid L;unfold aY;have V:IntKind.i64.wrap ((S.items.length:Int)+1)=(S.items.length:Int)+1:=by rw [IntKind.wrap_i64];omega
 have W:((m.id:Int) != (S.items.length:Int)+1)=false:=by rw [s];simp
 have x:¬m.time < S.time:=by omega
 have z:=Lib.hid s;clear j f k h c u s J;go_enter Tryz.func115,Tryz.ntmps115;go_wp2_with fail
 rw [p.out];go_quiet (fail)
 go_wp2_with fail
 refine (rA a d l q n S m v _ (i.out.drewN _) B (aA C.out fun g r e _=>ae (bA _ _ _) e) D.out z.out t K).mono ?_;rintro e X ⟨rfl,M,y,E,G,H,F⟩;go_wp2_with fail
 go_ret;obtain ⟨x,I⟩:=zU (i.out.drewN _) t E G H F;exact fR.after A.out (o.out.trans (bA _ _ _)) ⟨rfl,M,y,x,I⟩
theorem tK (a p y:Nat) (q:Nat→Nat) (z:Value) (S:aa) (l:List UInt8) (m:aX) (n:Int) (w:World) (h:bh a w p y q z S) (Q:l.length≤1048576) (F:w.cell? ⟨0,0,none⟩=some (.int .i64 n)) (R:S.items.length < 4294967295) (j:bP l=some m) (D:m.id=S.items.length+1) (E:S.time≤m.time):
  Calls Tryz.prog 75 #[.pointer (some ⟨p,0,none⟩),.string (bs l)] w (fR a p y q z S (S.plus m) m.time w):=by
 have C:=Lib.hid h;have L:=Lib.hid (ka l n w (Nat.le_trans Q (by decide)) F);have c:=Lib.hid j;have I:=Lib.hid D;have J:=Lib.hid E;clear h F j D E;go_enter Tryz.func75,Tryz.ntmps75;go_wp2_with fail
 refine L.out.mono ?_;rintro e A ⟨u,f⟩;have H:=Lib.hid (C.out.keep f);have B:=Lib.hid f;clear f
 rcases u with ⟨i,rfl⟩ | ⟨U,v,i,rfl,x,G⟩
 ·rw [c.out] at i;cases i
 ·rw [c.out] at i;injection i with i;subst i;have b:=rL (oD c.out);obtain ⟨N,T,P,rfl⟩:=kj x;obtain ⟨o,d⟩:∃o:World,A.alloc (.cells #[.int .i64 m.id,.int .i64 m.time,.string (bs m.frm),.slice N T P,.string (bs m.body)] 45)=o:=⟨_,rfl⟩;have k:Below A.heap.size A o:=by rw [←d];exact (Below.refl _ _).alloc (Nat.le_refl _) _
  have M:=Lib.hid (vP a p y q z S m _ o (H.out.keep k) _ (aA x fun g O e _=>ae k e) G b.1 R I.out J.out);have r:=Lib.hid (B.out.trans (k.mono B.out.size));have s:=Lib.hid d;simp only [aY];clear b k d x G;go_wp2_with fail
  rw [s.out];refine M.out.mono ?_;intro e V t;obtain ⟨rfl,_⟩:=id t;have K:=Lib.hid (fR.after C.out r.out t);clear t;go_wp2_with fail
  go_ret;exact K.out
structure fv [Kn] (w:World) (pb mb:Nat) (q:Nat→Nat) (vr:Value) (S:aa) (recs:List UInt8):Prop where
 inn:bh 0 w pb mb q vr S
 row:dT w vr recs
 due:jk w q S.live (bV S)
 kn:Kn.n0≤S.items.length
def an (w:World) (pb mb:Nat) (q:Nat→Nat) (vr:Value) (S:aa) (k:Nat):Prop:=fM w pb mb q S k∨vr.ownBlock=some k
def jm [Kn] (pb mb:Nat) (q:Nat→Nat) (vr:Value) (S:aa) (recs:List UInt8) (m:aX) (w w':World):Prop:=
 ∃q' vr',fv w' pb mb q' vr' (S.plus m) (recs++bJ (cA m))∧aH (an w pb mb q vr S) w w'∧∀k,an w' pb mb q' vr' (S.plus m) k→an w pb mb q vr S k∨w.heap.size≤k
theorem Dq {w:World} {a f j:Nat} {q:Nat→Nat} {c:Value} {S:aa} {b:List UInt8} (h:bh a w f j q c S) (i:dT w c b):c.ownBlock≠some f:=fun e=>by
 obtain ⟨g,z,d⟩:=i.tag e;rw [h.bag] at d;simp at d
theorem Ij {w:World} {a j f:Nat} {q:Nat→Nat} {c:Value} {S:aa} {b:List UInt8} (h:bh a w j f q c S) (i:dT w c b):c.ownBlock≠some f:=fun e=>by
 obtain ⟨g,z,d⟩:=i.tag e;have:=h.map;unfold gh at this;rw [this] at d;simp at d
theorem bh.row {d s p:Nat} {q:Nat→Nat} {l:Value} {S:aa} {j:List UInt8} {w u:World} (h:bh d w s p q l S) (o:dT w l j) (m:aH (fun k=>l.ownBlock=some k) w u):bh d u s p q l S:=by
 have r:∀{k:Nat} {C:Array Value} {t:TypeId} {z:Nat×Nat},w.heap[k]? =some (.cells C t z)→t≠5→l.ownBlock≠some k:=fun e B y=>by
  obtain ⟨n,D,f⟩:=o.tag y;rw [e] at f;injection f with f;injection f with _ f _;exact B f
 refine ⟨m.some_ h.bag (Dq h o),m.some_ h.map (Ij h o),h.pbb,h.mbb,h.one,fun i A=>?_⟩;obtain ⟨a,v,x,b,c⟩:=h.mail i A;exact ⟨a,v,x,m.some_ b (r b (by decide)),aA c fun g n e _=>m.some_ e (r e (by decide))⟩
theorem BB {c s r:Nat} {q:Nat→Nat} {o:Value} {S:aa} {f:List UInt8} {w:World} (h:bh c w s r q o S) (m:dT w o f) {g:Nat} (l:o.ownBlock=some g):¬fM w s r q S g:=by
 intro e;obtain ⟨u,z,n⟩:=m.tag l
 rcases e with e | e | ⟨i,B,e⟩
 ·exact Dq h m (by rw [←e];exact l)
 ·exact Ij h m (by rw [←e];exact l)
 ·obtain ⟨_,v,x,k,D⟩:=h.mail i B;unfold dL at k
  rcases e with e | ⟨C,E,a,b⟩
  ·rw [e,k] at n;simp at n
  ·rw [k] at a;injection a with a;injection a with a;subst a;have b:v.ownBlock=some g:=b
   rcases D.2 with ⟨j,_⟩ | ⟨A,t,p,j,_,d,_⟩
   ·rw [j] at b;simp [Value.ownBlock] at b
   ·rw [j] at b;have y:A=g:=by simpa [Value.ownBlock] using b
    rw [y,n] at d;simp at d
def gv [Kn] (pb mb:Nat) (q:Nat→Nat) (vr:Value) (S S':aa) (recs l:List UInt8) (w:World) (e:Ending) (w':World):Prop:=
 e= .returned (.bool true)∧∃q' vr',fv w' pb mb q' vr' S' (recs++bJ l)∧aH (an w pb mb q vr S) w w'∧∀k,an w' pb mb q' vr' S' k→an w pb mb q vr S k∨w.heap.size≤k
def pn [Kn] (S S':aa) (T:Nat):Prop:=S.items.length≤S'.items.length∧∀i∈S'.live,sH S.items.length T (bV S) i=bV S' i
theorem pn.of [Kn] {S a:aa} {T:Nat} (g:Kn.n0≤S.items.length) (c:S.items.length≤a.items.length) (d:∀i,i < S.items.length→a.mailOf i=S.mailOf i) (e:∀i∈a.live,S.items.length≤i→(a.mailOf i).time=T):pn S a T:=by
 refine ⟨c,fun i f=>?_⟩;unfold sH bV
 by_cases b:i < S.items.length
 ·rw [if_pos b,d i b]
 ·rw [if_neg b,if_neg (by omega),e i f (by omega)]
theorem kY [Kn] (d G:Nat) (q:Nat→Nat) (s:Value) (S A:aa) (b l:List UInt8) (T:Nat) (w:World) (h:fv w d G q s S b) (hD:pn S A T) (hl:l.length≤1048568) (a2:b.length≤1073741824) (hT:Calls Tryz.prog 75 #[.pointer (some ⟨d,0,none⟩),.string (bs l)] w (fR 0 d G q s S A T w)):
  Calls Tryz.prog 123 #[.pointer (some ⟨d,0,none⟩),.string (bs l)] w (gv d G q s S A b l w):=by
 have HT:=Lib.hid hT;have E:=Lib.hid h;have Y:(bJ l).length=8+l.length:=by unfold bJ;simp only [List.length_append,bf];omega
 have D:=Lib.hid hD;clear h hT hD;go_enter Tryz.func123,Tryz.ntmps123;go_wp2_with fail
 refine HT.out.mono ?_;rintro e m ⟨rfl,y,I,⟨P,O1⟩,D1⟩;have R:dT m s b:=E.out.row.chg P (fun g Z e=>BB E.out.inn E.out.row Z e);obtain ⟨av,cv,ev⟩:=R.len;have d0:m.drew.cell? ⟨d,0,none⟩=some s:=by show m.cell? _=_;rw [Lib.cell_of_heap I.bag];rfl
 have O:=Lib.hid (F9 l m.drew (by omega));have v:=Lib.hid (I.keep ((Below.refl _ _).drew));have M:=Lib.hid (R.below ((Below.refl _ _).drew));have K:=Lib.hid (P.trans (aH.below ((Below.refl m.heap.size m).drew):aH (fun _=>False) m m.drew) (fun _ _ e=>e.elim));have L:=Lib.hid O1;have J:=Lib.hid D1;clear I R P O1 D1;go_wp2_with fail
 have B:Hid (∀t:World,Below m.drew.heap.size m.drew t→∃a n c j,(Builtin.append_ #[114,9] 114 #[s,.string (bs (bJ l))]).run Tryz.prog t= .ok (.slice a n c) j∧j.cell? ⟨d,0,none⟩=some s∧j.frozen? ⟨d,0,none⟩=false∧gv d G q s S A b l w (.returned (.bool true)) (j.setCell ⟨d,0,none⟩ (.slice a n c))):=Lib.hid (by
  intro t f;have A2:=v.out.keep f;have U:=M.out.below f;obtain ⟨a,n,c,j,hr,R3,Q,O3⟩:=U.text (bJ l) (by rw [Y];omega);have u:=A2.row U Q;have H:aL d j (j.setCell ⟨d,0,none⟩ (.slice a n c)):=(aL.refl _ _).setCell _;have A4:=u.timed (T:=A.time) (vr':= .slice a n c) H (heap_setCell_same j d 0 _ _ _ u.bag)
  have a0:(Value.slice a n c).ownBlock≠some d:=fun e=>by
   obtain ⟨X,z,x⟩:=R3.tag e;rw [u.bag] at x;simp at x
  have K2:aH (fM w d G q S) w t:=K.out.trans (aH.below f:aH (fun _=>False) _ _) (fun _ _ e=>e.elim)
  have r:∀i∈A.live,(j.setCell ⟨d,0,none⟩ (.slice a n c)).heap[y i]? =m.heap[y i]? :=fun i o=>by
   obtain ⟨_,v3,x3,W,_⟩:=u.mail i o;obtain ⟨_,v2,x2,V,_⟩:=A2.mail i o;have e4:(j.setCell ⟨d,0,none⟩ (.slice a n c)).heap[y i]? =j.heap[y i]? :=H.2 _ (fun e=>by unfold dL at W;rw [e,u.bag] at W;simp at W)
   have e3:j.heap[y i]? =t.heap[y i]? :=Q.block _ (ah V) (fun e=>by
    obtain ⟨X,z,x⟩:=U.tag e;unfold dL at V;rw [V] at x
    simp at x)
   obtain ⟨_,v1,x1,b1,_⟩:=v.out.mail i o;exact e4.trans (e3.trans (f.block _ (ah b1)))
  refine ⟨a,n,c,j,hr,by rw [Lib.cell_of_heap u.bag];rfl,Lib.frozen_of_heap u.bag 0,rfl,y,.slice a n c,⟨A4,R3.chg (aH.same H) (fun g Z e=>a0 (by rw [←e];exact Z)),fun i o=>?_,Nat.le_trans E.out.kn D.out.1⟩,?_,?_⟩
  ·obtain ⟨C,x,h4,h5⟩:=J.out (bV S) E.out.due i o;rw [D.out.2 i o] at h4 h5;exact ⟨C,(r i o).trans x,h4,h5⟩
  ·exact ((K2.mono (fun k _ e=> .inl e)).trans Q (fun _ _ e=> .inr e)).trans (aH.same H) (fun k _ e=> .inl (.inl e))
  ·intro k F
   rcases F with F | F
   ·exact (L.out k (fM.keep (fun i o=>r i o) F)).imp .inl id
   ·rcases O3 k F with e | e
    ·exact .inl (.inr e)
    ·exact .inr (Nat.le_trans K2.size e))
 subst ev
 go_region_law (first
  | (refine gD rfl _ _ 114 9 rfl _ _ _ j rfl rfl a1.out ?_)
  | (go_simp;go_at_call 173;refine O.out.mono ?_;rintro e t ⟨rfl,f⟩;obtain ⟨a3,n3,c3,j,p,p0,f0,R5⟩:=B.out t f;have d2:t.cell? ⟨d,0,none⟩=some (.slice av b.length cv):=(by rw [Lib.cell_of_heap (v.out.keep f).bag];rfl);have a1:=Lib.hid p;have N:=Lib.hid R5;clear p R5 f;dsimp only))
 all_goals
  go_wp2_with fail
  go_ret;exact N.out
theorem tL [Kn] (b c:Nat) (q:Nat→Nat) (d:Value) (S:aa) (a:List UInt8) (m:aX) (n:Int) (w:World) (h:fv w b c q d S a) (k:(cA m).length≤1048568) (j:a.length≤1073741824) (p:w.cell? ⟨0,0,none⟩=some (.int .i64 n)) (r:S.items.length < 4294967295) (g:bP (cA m)=some m) (l:m.id=S.items.length+1) (o:S.time≤m.time):
  Calls Tryz.prog 123 #[.pointer (some ⟨b,0,none⟩),.string (bs (cA m))] w fun e s=>e= .returned (.bool true)∧jm b c q d S a m w s:=
 (kY b c q d S (S.plus m) a (cA m) m.time w h (pn.of h.kn (by rw [dv];omega) (fun i f=>je f) (fun i f k=>by
  have:=bq f;rw [dv] at this;obtain rfl:i=S.items.length:=by omega
  rw [dN])) k j (tK 0 b c q d S (cA m) m n w h.inn (by omega) p r g l o)).mono fun _ _ h=>h
theorem fv.below [Kn] {w e:World} {pb c:Nat} {q:Nat→Nat} {d:Value} {S:aa} {a:List UInt8} (h:fv w pb c q d S a) (b:Below w.heap.size w e):fv e pb c q d S a:=⟨h.inn.keep b,h.row.below b,h.due.below b,h.kn⟩
def eJ (S:aa) (frm:List UInt8) (tos:List (List UInt8)) (body:List UInt8):aX:=⟨S.items.length+1,S.time,frm,tos,body⟩
theorem qS {m:aX} (a:dQ m):(cA m).length≤1200000:=by
 obtain ⟨c,d,e,f,b,g⟩:=a;have:=vV m.tos b;unfold cA jC;simp only [List.length_cons,List.length_append,bf];omega
theorem Jd [Kn] (k I:Nat) (q:Nat→Nat) (J u:Value) (S:aa) (a d b:List UInt8) (c:List (List UInt8)) (g:Int) (w:World) (h:fv w k I q J S a) (t:bg w u c.length 1 (aB c)) (m:dQ (eJ S d c b)) (F:a.length≤1073741824) (f:g < ((a.length+(8+(cA (eJ S d c b)).length):Nat):Int)):
  Calls Tryz.prog 195 #[.pointer (some ⟨k,0,none⟩),.string (bs d),u,.string (bs b),.int .i64 g] w fun e v=>e= .returned (.tuple #[.int .i64 0,.bool false])∧Below w.heap.size w v:=by
 have j:=Lib.hid (oH (S.items.length+1) S.time d c b u w t m);have s:=qS m;have L:w.cell? ⟨k,1,none⟩=some (.int .i64 S.time):=by rw [Lib.cell_of_heap h.inn.bag];rfl
 have M:w.cell? ⟨k,2,none⟩=some (.int .i64 S.items.length):=by rw [Lib.cell_of_heap h.inn.bag];rfl
 obtain ⟨K,N,C⟩:=aE t;obtain ⟨z,A,B⟩:=h.row.len;subst C B;have E:S.items.length+1≤4294967295:=m.1;have G:IntKind.i64.wrap ((S.items.length:Int)+1)=((S.items.length+1:Nat):Int):=by rw [IntKind.wrap_i64];omega
 obtain ⟨l,r⟩:∃l,cA (eJ S d c b)=l:=⟨_,rfl⟩;rw [r] at s f;rw [show cA ⟨S.items.length+1,S.time,d,c,b⟩=l from r] at j;have H:IntKind.i64.wrap ((a.length:Int)+(8+(l.length:Int)))=(a.length:Int)+(8+(l.length:Int)):=by rw [IntKind.wrap_i64];omega
 have o:=Lib.hid h.inn.bag;have p:Hid (∀W:World,Calls Tryz.prog 234 #[.string (bs l)] W fun e v=>e= .returned (.int .i64 ((8+l.length:Nat):Int))∧W=v):=Lib.hid (fun W=>rQ l W (by omega));have D:g < (a.length:Int)+(8+(l.length:Int)):=by omega
 clear h t m r f;go_enter Tryz.func195,Tryz.ntmps195;go_wp2_with fail
 refine j.out.mono ?_;rintro e x ⟨rfl,i⟩;have y:=ae i o.out;have O:x.drew.cell? ⟨k,0,none⟩=some (.slice z a.length A):=by show x.cell? _=_;rw [Lib.cell_of_heap y];rfl
 have n:=Lib.hid i;clear y i;go_wp2_with fail
 go_region_law (first
  | (go_simp;go_at_call 234;refine (p.out x.drew).mono ?_;rintro e P ⟨rfl,rfl⟩;dsimp only))
 all_goals
  go_wp2_with fail
  go_ret2
  exact ⟨rfl,n.out.trans ((Below.refl _ _).drew)⟩
theorem G5 [Kn] (j r:Nat) (q:Nat→Nat) (B O:Value) (S:aa) (b d a:List UInt8) (c:List (List UInt8)) (g:Int) (n:Int) (w:World) (h:fv w j r q B S b) (M:bg w O c.length 1 (aB c)) (x:dQ (eJ S d c a)) (L:b.length≤1073741824) (i:¬g < ((b.length+(8+(cA (eJ S d c a)).length):Nat):Int)) (a1:g≤1000000) (J:w.cell? ⟨0,0,none⟩=some (.int .i64 n)) (v:bP (cA (eJ S d c a))=some (eJ S d c a)):
  Calls Tryz.prog 195 #[.pointer (some ⟨j,0,none⟩),.string (bs d),O,.string (bs a),.int .i64 g] w fun e y=>e= .returned (.tuple #[.int .i64 ((S.items.length:Int)+1),.bool true])∧jm j r q B S b (eJ S d c a) w y:=by
 have t:Hid (∀W:World,Below w.heap.size w W→Calls Tryz.prog 123 #[.pointer (some ⟨j,0,none⟩),.string (bs (cA (eJ S d c a)))] W fun e y=>e= .returned (.bool true)∧jm j r q B S b (eJ S d c a) W y):=Lib.hid (fun W Q=>tL j r q B S b (eJ S d c a) n W (h.below Q) (by omega) L ((Q.cell (aC J)).trans J) (by have:S.items.length+1≤4294967295:=x.1;omega) v rfl (Nat.le_refl _));have R:=Lib.hid h;have s:=Lib.hid (oH (S.items.length+1) S.time d c a O w M x);have K:=qS x;have c1:w.cell? ⟨j,1,none⟩=some (.int .i64 S.time):=by rw [Lib.cell_of_heap h.inn.bag];rfl
 have c2:w.cell? ⟨j,2,none⟩=some (.int .i64 S.items.length):=by rw [Lib.cell_of_heap h.inn.bag];rfl
 obtain ⟨av,cv,Y⟩:=aE M;obtain ⟨G,H,X⟩:=h.row.len;subst Y X;have a0:S.items.length+1≤4294967295:=x.1;have a2:IntKind.i64.wrap ((S.items.length:Int)+1)=((S.items.length+1:Nat):Int):=by rw [IntKind.wrap_i64];omega
 obtain ⟨l,A⟩:∃l,cA (eJ S d c a)=l:=⟨_,rfl⟩;rw [A] at K i;rw [show cA ⟨S.items.length+1,S.time,d,c,a⟩=l from A] at s;have a3:IntKind.i64.wrap ((b.length:Int)+(8+(l.length:Int)))=(b.length:Int)+(8+(l.length:Int)):=by rw [IntKind.wrap_i64];omega
 have D:=Lib.hid h.inn.bag;have F:Hid (∀W:World,Calls Tryz.prog 234 #[.string (bs l)] W fun e y=>e= .returned (.int .i64 ((8+l.length:Nat):Int))∧W=y):=Lib.hid (fun W=>rQ l W (by omega));have Z:¬g < (b.length:Int)+(8+(l.length:Int)):=by omega
 rw [A] at t;clear h M x A i J v;go_enter Tryz.func195,Tryz.ntmps195;go_wp2_with fail
 refine s.out.mono ?_;rintro e z ⟨rfl,o⟩;have P:=ae o D.out;have d0:z.drew.cell? ⟨j,0,none⟩=some (.slice G b.length H):=by show z.cell? _=_;rw [Lib.cell_of_heap P];rfl
 have C:=Lib.hid o;clear P o;go_wp2_with fail
 go_region_law (first
  | (go_simp;go_at_call 234;refine (F.out z.drew).mono ?_;rintro e w2 ⟨rfl,rfl⟩;dsimp only))
 all_goals
  go_wp2_with fail
  have p:Below w.heap.size w z.drew:=C.out.trans ((Below.refl _ _).drew);refine (t.out _ p).mono ?_;rintro e w5 ⟨rfl,u⟩;have E:=Lib.hid u;have m:=Lib.hid p;clear u p;go_wp2_with fail
  go_ret2
  obtain ⟨q',N,V,T,U⟩:=E.out;have f:∀k,an z.drew j r q (.slice G b.length H) S k→an w j r q (.slice G b.length H) S k:=fun k I=>I.imp (fun e=>cR R.out.inn m.out e) id;exact ⟨rfl,q',N,V,((aH.below m.out:aH _ _ _)).trans T (fun k _ e=>f k e),fun k I=>(U k I).imp (f k) (fun e=>Nat.le_trans m.out.size e)⟩
structure Kb (w0:World) (b0:Nat) (C:Array Value) (W:World) (v:Value) (a:List UInt8):Prop where
 wr:WR w0.heap.size w0 W v a
 ne:v.ownBlock≠some b0
 blk:W.heap[b0]? =some (.cells C 193 (0,0))
theorem Kb.step {l W c:World} {b:Nat} {C:Array Value} {v f:Value} {a g:List UInt8} (h:Kb l b C W v a) (m:dT c f g) (i:aH (fun k=>v.ownBlock=some k) W c) (j:∀k,f.ownBlock=some k→v.ownBlock=some k∨W.heap.size≤k):Kb l b C c f g:=by
 have d:b < W.heap.size:=ah h.blk;refine ⟨h.wr.step (Nat.le_refl _) m i j,fun e=>?_,(i.block b d h.ne).trans h.blk⟩
 rcases j _ e with e | e
 ·exact h.ne e
 ·omega
theorem kM (s w:World) (v vp:Value) (c:List UInt8) (d:Nat) (a:List Nat) (r:WR s.heap.size s w v c) (hp:bg s vp a.length 1 (aZ a)) (hl:c.length≤1000) (W:d≤4294967295) (hn:a.length≤100) (D:∀x∈a,x≤255):
  Calls Tryz.prog 175 #[v,.agg #[.int .i64 d,vp]] w fun e w'=>∃v',e= .returned v'∧WR s.heap.size s w' v' (c++aM d a):=by
 obtain ⟨t,u,rfl,f⟩:=hp.one;have HV:=Lib.hid f;have M:=Lib.hid D;have Z:=r.below.size;obtain ⟨o,z⟩:∃o:World,w.alloc (.cells #[.int .i64 d,.slice t a.length u] 193)=o:=⟨_,rfl⟩;have I:Below w.heap.size w o:=by rw [←z];exact (Below.refl _ _).alloc (Nat.le_refl _) _
 have S:o.heap[w.heap.size]? =some (.cells #[.int .i64 d,.slice t a.length u] 193 (0,0)):=by rw [←z];exact heap_alloc_new w _
 have S1:Kb s w.heap.size #[.int .i64 d,.slice t a.length u] o v c:=⟨⟨r.row.below I,r.own,r.below.trans (I.mono Z)⟩,fun e=>by have:=r.row.lt e;omega,S⟩
 obtain ⟨a1,c1,rfl⟩:=r.row.len;have i0:o.cell? ⟨w.heap.size,0,none⟩=some (.int .i64 d):=by rw [Lib.cell_of_heap S];rfl
 have m:=Lib.hid S1;clear hp f D S I S1 r;go_enter Tryz.func175,Tryz.ntmps175;go_wp2_with fail
 refine (dF _ c d 4 o m.out.wr.row (by omega) W (by omega)).mono ?_;rintro e w2 ⟨v2,rfl,F,K2,O2⟩;have B:(c++az 4 d).length≤1004:=by rw [List.length_append,bf];omega
 obtain ⟨H,p⟩:∃A,c++az 4 d=A:=⟨_,rfl⟩;rw [p] at F B;have Q:=m.out.step F K2 O2;obtain ⟨a2,c2,rfl⟩:=F.len;have n:=Lib.hid Q;have K:=Lib.hid p;have i2:w2.cell? ⟨w.heap.size,1,none⟩=some (.slice t a.length u):=by rw [Lib.cell_of_heap Q.blk];rfl
 clear F K2 O2 Q p m i0;go_wp2_with fail
 refine (dF _ H a.length 1 w2 n.out.wr.row (by omega) (by omega) (by omega)).mono ?_;rintro e w3 ⟨v3,rfl,G,K3,O3⟩;have C:(H++az 1 a.length).length≤1005:=by rw [List.length_append,bf];omega
 obtain ⟨E,q⟩:∃A,H++az 1 a.length=A:=⟨_,rfl⟩;rw [q] at G C;have R:=n.out.step G K3 O3;obtain ⟨a3,c3,rfl⟩:=G.len;have N:=Lib.hid R;have L:=Lib.hid q;have i3:w3.cell? ⟨w.heap.size,1,none⟩=some (.slice t a.length u):=by rw [Lib.cell_of_heap R.blk];rfl
 clear G K3 O3 R q n i2;go_wp2_with fail
 go_loopw [0,19] (fun b i w'=>∃k:Nat,k≤a.length∧i= .int .i64 k∧Hid (Kb s w.heap.size #[.int .i64 d,.slice t a.length u] w' b (E++fB (a.take k)))) (fun _ i _=>a.length - (intOf i).toNat)
 case atStart=>
  refine ⟨0,Nat.zero_le _,rfl,Lib.hid ?_⟩;rw [List.take_zero,show fB []=[] from rfl,List.append_nil];exact N.out
 case round=>
  obtain ⟨k,hk,rfl,l⟩:=hrel;have a7:(fB (a.take k)).length≤k:=by rw [jd,List.length_take];omega
  by_cases j:k < a.length
  ·have a4:(k:Int) < (a.length:Int):=by omega
   obtain ⟨g,a0,rfl,V,T⟩:=HV.out k j;rw [lY a k j] at T;have d0:wr.cell? ⟨g,a0+k,none⟩=some (.int .i64 (a[k]:Nat)):=(l.out.wr.below.cell (by exact V)).trans T;have P:Hid (fB (a.take (k+1))=fB (a.take k)++az 1 a[k]):=Lib.hid (zr a k j);have Y:=M.out a[k] (List.getElem_mem j);obtain ⟨x,ex⟩:∃x,a[k]=x:=⟨_,rfl⟩;rw [ex] at d0 P Y;obtain ⟨y,h⟩:∃y,E++fB (a.take k)=y:=⟨_,rfl⟩;have a5:y.length≤1005+k:=by rw [←h,List.length_append];omega
   have HN:Hid (E++fB (a.take (k+1))=y++az 1 x):=Lib.hid (by rw [P.out,←List.append_assoc,h]);rw [h] at l;obtain ⟨a6,c6,U⟩:=l.out.wr.row.len;subst U;have J:=Lib.hid (dF _ y x 1 wr l.out.wr.row (by omega) (by omega) (by omega));clear T ex h P;go_wp2_with fail
   refine J.out.mono ?_;rintro e w7 ⟨v7,rfl,R7,K7,O7⟩;have O:=Lib.hid (l.out.step R7 K7 O7);clear R7 K7 O7;go_wp2_with fail
   exact ⟨⟨k+1,by omega,by go_num,by rw [HN.out];exact O⟩,by simp [intOf];omega⟩
  ·have X:k=a.length:=by omega
   subst X;rw [List.take_length] at l;have HE:Hid (c++aM d a=E++fB a):=Lib.hid (by rw [←L.out,←K.out];simp [aM]);go_wp2_with fail
   go_ret;exact ⟨_,rfl,by rw [HE.out];exact l.out.wr⟩
theorem xr (E:Value) (c:Nat) (b:List Nat) (w:World) (u:bg w E b.length 1 (aZ b)) (t:c≤4294967295) (I:b.length≤100) (l:∀x∈b,x≤255):
  Calls Tryz.prog 171 #[.agg #[.int .i64 c,E]] w fun e J=>e= .returned (.string (bs (71::aM c b)))∧Below w.heap.size w J:=by
 obtain ⟨n,o,rfl,_⟩:=u.one;obtain ⟨a,d⟩:∃a:World,w.alloc (.cells #[.int .i64 c,.slice n b.length o] 193)=a:=⟨_,rfl⟩;have p:Below w.heap.size w a:=by rw [←d];exact (Below.refl _ _).alloc (Nat.le_refl _) _
 have C:a.heap[w.heap.size]? =some (.cells #[.int .i64 c,.slice n b.length o] 193 (0,0)):=by rw [←d];exact heap_alloc_new w _
 have v:a.heap.size=w.heap.size+1:=by rw [←d];simp
 have j:=Lib.run_convert_bytes_const (P:=Tryz.prog) a 114 5 #[.int .u8 71] 1 1 Tryz.underlying114 Tryz.underlying5;have m:Below a.heap.size a (a.alloc (.cells #[.int .u8 71] 5 (1,2))):=(Below.refl _ _).alloc (Nat.le_refl _) _;have s:dT (a.alloc (.cells #[.int .u8 71] 5 (1,2))) (.slice (some ⟨a.heap.size,0,none⟩) 1 1) [71]:= .inr ⟨a.heap.size,1,#[.int .u8 71],(1,2),rfl,heap_alloc_new a _,.inr (Nat.le_refl _),Nat.le_refl _,by unfold maxLen;decide,rfl,rfl⟩
 obtain ⟨f,h⟩:∃f:World,a.alloc (.cells #[.int .u8 71] 5 (1,2))=f:=⟨_,rfl⟩;rw [show (#[Value.int .u8 71]:Array Value).size=1 from rfl,h] at j;rw [h] at s m;have B:WR a.heap.size a f (.slice (some ⟨a.heap.size,0,none⟩) 1 1) [71]:=⟨s,fun k e=>by injection e with e;have e:a.heap.size=k:=e;omega,m⟩
 have y:f.heap[w.heap.size]? =some (.cells #[.int .i64 c,.slice n b.length o] 193 (0,0)):=(m.block _ (by omega)).trans C;have M:f.cell? ⟨w.heap.size,0,none⟩=some (.int .i64 c):=by rw [Lib.cell_of_heap y];rfl
 have N:f.cell? ⟨w.heap.size,1,none⟩=some (.slice n b.length o):=by rw [Lib.cell_of_heap y];rfl
 have z:=Lib.hid (kM a f _ _ [71] c b B (u.below p) (by simp) t I l);have q:=Lib.hid p;rw [v] at j z;have H:=Lib.hid d;clear u l C p s m B h y;go_enter Tryz.func171,Tryz.ntmps171;go_wp2_with fail
 refine z.out.mono ?_;rintro e Q ⟨O,rfl,i⟩;have r:=Lib.hid (q.out.trans (i.below.mono (by omega)));obtain ⟨F,g⟩:∃A,[71]++aM c b=A:=⟨_,rfl⟩;have G:Hid (71::aM c b=F):=Lib.hid g;rw [g] at i;have D:=i.row.string;obtain ⟨K,L,rfl⟩:=i.row.len;clear i g;go_wp2_with fail
 go_ret;exact ⟨by rw [G.out];rfl,r.out⟩
theorem sL (R:Value) (a d:Nat) (c:List Nat) (w:World) (I:bg w R c.length 1 (aZ c)) (Y:a≤4294967295) (H:d≤4294967295) (X:c.length≤100) (o:∀x∈c,x≤255):
  Calls Tryz.prog 124 #[.int .i64 a,.agg #[.int .i64 d,R]] w fun e w'=>e= .returned (.string (bs (70::(az 4 a++aM d c))))∧Below w.heap.size w w':=by
 obtain ⟨r,s,rfl,_⟩:=I.one;obtain ⟨b,g⟩:∃b:World,w.alloc (.cells #[.int .i64 d,.slice r c.length s] 193)=b:=⟨_,rfl⟩;have v:Below w.heap.size w b:=by rw [←g];exact (Below.refl _ _).alloc (Nat.le_refl _) _
 have O:b.heap[w.heap.size]? =some (.cells #[.int .i64 d,.slice r c.length s] 193 (0,0)):=by rw [←g];exact heap_alloc_new w _
 have j:b.heap.size=w.heap.size+1:=by rw [←g];simp
 have n:=Lib.run_convert_bytes_const (P:=Tryz.prog) b 114 5 #[.int .u8 70] 1 1 Tryz.underlying114 Tryz.underlying5;have y:Below b.heap.size b (b.alloc (.cells #[.int .u8 70] 5 (1,2))):=(Below.refl _ _).alloc (Nat.le_refl _) _;have p:dT (b.alloc (.cells #[.int .u8 70] 5 (1,2))) (.slice (some ⟨b.heap.size,0,none⟩) 1 1) [70]:= .inr ⟨b.heap.size,1,#[.int .u8 70],(1,2),rfl,heap_alloc_new b _,.inr (Nat.le_refl _),Nat.le_refl _,by unfold maxLen;decide,rfl,rfl⟩
 obtain ⟨q,i⟩:∃q:World,b.alloc (.cells #[.int .u8 70] 5 (1,2))=q:=⟨_,rfl⟩;rw [show (#[Value.int .u8 70]:Array Value).size=1 from rfl,i] at n;rw [i] at p y;have N:WR b.heap.size b q (.slice (some ⟨b.heap.size,0,none⟩) 1 1) [70]:=⟨p,fun k e=>by injection e with e;have e:b.heap.size=k:=e;omega,y⟩
 have F:=Lib.hid N;have G:=Lib.hid O;have C:=Lib.hid (I.below v);have D:=Lib.hid o;have E:=Lib.hid (dF _ [70] a 4 q p (by simp) Y (by omega));have z:=Lib.hid v;rw [j] at n E;have V:=Lib.hid g;clear I o O v p y N i;go_enter Tryz.func124,Tryz.ntmps124;go_wp2_with fail
 refine E.out.mono ?_;rintro e t ⟨Z,rfl,M,K,L⟩;have l:=F.out.step (Nat.le_refl _) M (by rw [j];exact K) (by rw [j];exact L);obtain ⟨u,f⟩:∃A,[70]++az 4 a=A:=⟨_,rfl⟩;have W:u.length≤5:=by rw [←f,List.length_append,bf];simp
 rw [f] at l;have U:=Lib.hid (kM b t Z _ u d c l C.out (by omega) H X D.out);have J:t.heap[w.heap.size]? =some (.cells #[.int .i64 d,.slice r c.length s] 193 (0,0)):=(l.below.block _ (by omega)).trans G.out;have i0:t.cell? ⟨w.heap.size,0,none⟩=some (.int .i64 d):=by rw [Lib.cell_of_heap J];rfl
 have i1:t.cell? ⟨w.heap.size,1,none⟩=some (.slice r c.length s):=by rw [Lib.cell_of_heap J];rfl
 obtain ⟨a2,c2,rfl⟩:=l.row.len;clear M K L l J E;go_wp2_with fail
 refine U.out.mono ?_;rintro e w3 ⟨v3,rfl,m⟩;have B:=Lib.hid (z.out.trans (m.below.mono (by omega)));obtain ⟨S,h⟩:∃A,u++aM d c=A:=⟨_,rfl⟩;have T:Hid (70::(az 4 a++aM d c)=S):=Lib.hid (by rw [←h,←f];simp);rw [h] at m;have Q:=m.row.string;obtain ⟨a3,c3,rfl⟩:=m.row.len;clear m h f;go_wp2_with fail
 go_ret;exact ⟨by rw [T.out];rfl,B.out⟩
end Go.Proofs.YtofpegbpgkkgkaaGreatDoor
