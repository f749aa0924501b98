import Derived.Test.YtofpegbpgkkgkaaGreatDoorS09
namespace Go.Proofs.YtofpegbpgkkgkaaGreatDoor
set_option maxHeartbeats 8000000
set_option maxRecDepth 1000000
open Go.RowKit
theorem lJ (k:IntKind) (j:Nat) (l:j≤k.bits) (m:∀n:Int,0≤n→n < 2 ^ j→k.wrap n=n) (a b:Nat) (f:a < 2 ^ j) (g:b < 2 ^ j):bits .xor k a b=((a ^^^ b:Nat):Int):=by
 have i:2 ^ j≤2 ^ k.bits:=Nat.pow_le_pow_right (by decide) l;have d:a % 2 ^ k.bits=a:=Nat.mod_eq_of_lt (Nat.lt_of_lt_of_le f i);have e:b % 2 ^ k.bits=b:=Nat.mod_eq_of_lt (Nat.lt_of_lt_of_le g i);have c:∀n:Nat,n < 2 ^ j→((n:Nat):Int) < 2 ^ j:=fun n h=>by exact_mod_cast h
 simp only [bits,BitVec.ofInt_natCast,BitVec.toNat_xor,BitVec.toNat_ofNat,d,e];exact m _ (Int.natCast_nonneg _) (c _ (Nat.xor_lt_two_pow f g))
theorem Gb (n:Int) (a:0≤n) (b:n < 2 ^ 32):IntKind.i64.wrap n=n:=by rw [IntKind.wrap_i64];omega
theorem Ga (n:Int):IntKind.u32.wrap n=n % 4294967296:=by simp [IntKind.wrap,IntKind.bits,IntKind.signed]
theorem od (n:Int) (a:0≤n) (b:n < 2 ^ 32):IntKind.u32.wrap n=n:=by rw [Ga];omega
def dY (l:List UInt8):List UInt8:=if (jb l).2 then (jb l).1 else []
theorem oL (l:List UInt8) (m:Int) (w:World) (q:l.length≤140737488355328) (n:w.cell? ⟨0,0,none⟩=some (.int .i64 m)):
  Calls Tryz.prog 210 #[.string (bs l)] w fun e t=>e= .returned (.tuple #[.string (bs (dY l)),.bool (jb l).2])∧Below w.heap.size w t:=by
 have a:=vz (bs l) m w (by rw [aG];exact q) n;go_enter Tryz.func210,Tryz.ntmps210;go_wp2_with fail
 refine a.mono ?_;rintro e u ⟨x,y,f,rfl,h,k⟩;obtain ⟨c,rfl⟩:∃c,x=bs c:=⟨_,(Eb x).symm⟩;obtain ⟨d,rfl⟩:∃d,y=bs d:=⟨_,(Eb y).symm⟩;rw [aI,aI,aI] at h;have b:=xv l;rw [h] at b;obtain ⟨o,p⟩:=b;have r:(bs c).size≤20:=by rw [aG];exact o
 have s:(bs d).size≤40:=by rw [aG];exact p
 have g:Hid (jb l=(c++64::d,f)):=Lib.hid (by unfold jb;rw [h]);have j:=Lib.hid k;clear h k o p a n
 cases f with
 | false=>
  have i:Hid (dY l=[]):=Lib.hid (by unfold dY;rw [g.out];rfl);go_wp2_with fail
  go_ret2
  exact ⟨by rw [i.out,g.out];rfl,j.out⟩
 | true=>
  have i:Hid (dY l=c++64::d):=Lib.hid (by unfold dY;rw [g.out];rfl);go_wp2_with fail
  go_ret2
  refine ⟨?_,j.out⟩;rw [show (⟨#[64]⟩:ByteArray)=bs [64] from rfl,cE,cE,i.out,g.out];simp
theorem um (l:List UInt8) (m:Int) (w:World) (j:l.length≤140737488355328) (i:w.cell? ⟨0,0,none⟩=some (.int .i64 m)):
  Calls Tryz.prog 218 #[.string (bs l)] w fun e k=>e= .returned (.bool (dH l))∧Below w.heap.size w k:=by
 have a:=oL l m w j i
 have b:Hid (dH l=((jb l).2 && (dY l == l))):=Lib.hid (by
  unfold dH dY
  cases (jb l).2 <;> rfl)
 obtain ⟨K,d⟩:∃K,dY l=K:=⟨_,rfl⟩;obtain ⟨f,g⟩:∃f,(jb l).2=f:=⟨_,rfl⟩;rw [d,g] at a b;clear d g;go_enter Tryz.func218,Tryz.ntmps218;go_wp2_with fail
 refine a.mono ?_;rintro e n ⟨rfl,h⟩;have c:=Lib.hid h;clear h a i
 cases f with
 | false=>
  go_wp2_with fail
  go_ret;exact ⟨cG (by rw [b.out];rfl),c.out⟩
 | true=>
  go_wp2_with fail
  go_ret;refine ⟨cG ?_,c.out⟩;rw [tS,b.out];simp
theorem CI (l:List (List UInt8)) (k:Nat) (h:k < l.length):yW l k= !((l.take k).contains l[k]):=by
 unfold yW;rw [Bool.eq_iff_iff,List.all_eq_true,Bool.not_eq_true',←Bool.not_eq_true,List.contains_iff_mem];have b:l.getD k []=l[k]:=by rw [List.getD_eq_getElem?_getD,List.getElem?_eq_getElem h];rfl
 constructor
 ·intro c d;obtain ⟨j,a,e⟩:=List.getElem_of_mem d;rw [List.length_take] at a;have:=c j (List.mem_range.2 (by omega));rw [b,List.getD_eq_getElem?_getD,List.getElem?_eq_getElem (by omega:j < l.length)] at this;rw [List.getElem_take] at e;simp [e] at this
 ·intro f j a;have a:=List.mem_range.1 a;rw [b,List.getD_eq_getElem?_getD,List.getElem?_eq_getElem (by omega:j < l.length)];simp only [Option.getD_some,Bool.not_eq_true',beq_eq_false_iff_ne,ne_eq];intro e;exact f (by rw [←e];exact List.mem_take_iff_getElem.2 ⟨j,by omega,rfl⟩)
theorem bg.part {w:World} {a:Option Addr} {n c:Nat} {l:List (List UInt8)} (h:bg w (.slice a n c) l.length 1 (cm l)) (k:Nat) (r:k≤l.length):bg w (.slice a k c) (l.take k).length 1 (cm (l.take k)):=by
 have f:(l.take k).length=k:=by rw [List.length_take];omega
 refine ⟨by simp [cm],?_⟩
 rw [f]
 rcases h.2 with ⟨p,o,d,e⟩ | ⟨b,g,d,e,m,i⟩
 ·have:k=0:=by omega
  subst this;exact .inl ⟨rfl,_,_,rfl⟩
 ·injection e with e1 e2 e3;subst e1 e3;refine .inr ⟨b,g,_,rfl,by omega,fun j q=>?_⟩
  rw [i j (by omega)];simp [cm,show j < k by omega]
theorem Mi (l:List (List UInt8)) (v:Value) (m:Int) (w:World) (h:bg w v l.length 1 (cm l)) (hl:l.length≤255) (U:∀t∈l,t.length≤255) (T:w.cell? ⟨0,0,none⟩=some (.int .i64 m)):
  Calls Tryz.prog 219 #[v] w fun e r=>e= .returned (.bool (iH l))∧Below w.heap.size w r:=by
 obtain ⟨a,x,rfl,Q⟩:=h.one;have R:=h.cap;have V:=Lib.hid Q;have W:=Lib.hid h;have X:=Lib.hid U;have Y:=eI T;clear Q h U
 by_cases O:1≤l.length
 ·by_cases P:l.length≤10
  ·have s:Hid (iH l=(List.range l.length).all (oG l)):=Lib.hid (by unfold iH;rw [decide_eq_true O,decide_eq_true P];rfl);have y:decide ((l.length:Int) < 1)=false:=decide_eq_false (by omega);have H:decide (10 < (l.length:Int))=false:=decide_eq_false (by omega);go_enter Tryz.func219,Tryz.ntmps219;go_wp2_with fail
   go_loopw [15] (fun i r=>∃k:Nat,k≤l.length∧i= .int .i64 k∧Hid (∀j,j < k→oG l j=true)∧Hid (Below w.heap.size w r)) (fun i _=>l.length - (intOf i).toNat)
   case atStart=>exact ⟨0,Nat.zero_le _,rfl,Lib.hid (fun j I=>by omega),Lib.hid (Below.refl _ _)⟩
   case round=>
    obtain ⟨k,Z,rfl,M,p⟩:=hrel
    by_cases g:k < l.length
    ·have S:(k:Int) < (l.length:Int):=by omega
     obtain ⟨b,A,rfl,F,f⟩:=V.out k g;rw [eh l k g] at f;have G:wr.cell? ⟨b,A+k,none⟩=some (.string (bs l[k])):=(p.out.cell F).trans f;have K:=X.out l[k] (List.getElem_mem g)
     have n:Hid (oG l k=(dH l[k] && !((l.take k).contains l[k]))):=Lib.hid (by
      unfold oG
      rw [CI l k g,List.getD_eq_getElem?_getD,List.getElem?_eq_getElem g];rfl)
     obtain ⟨t,N⟩:∃t,l[k]=t:=⟨_,rfl⟩;rw [N] at G K n;have z:wr.cell? ⟨0,0,none⟩=some (.int .i64 m):=(p.out.cell Y).trans T;have u:=Lib.hid (um t m wr (by omega) z);have q:Hid (∀r,Below w.heap.size w r→Calls Tryz.prog 201 #[.slice (some ⟨b,A,none⟩) k x,.string (bs t)] r fun e L=>e= .returned (.bool ((l.take k).contains t))∧r=L):=Lib.hid (fun r E=>mw (l.take k) t _ r ((W.out.below E).part k Z) (by rw [List.length_take];omega));have a0:(0:Int)≤(k:Int):=by omega
     have a1:(k:Int)≤(x:Int):=by omega
     clear N f z
     cases C:dH t with
     | false=>
      have o:Hid ((List.range l.length).all (oG l)=false):=Lib.hid (qG g (by rw [n.out,C];rfl));rw [C] at u;go_wp2_with fail
      refine u.out.mono ?_;rintro e B ⟨rfl,c⟩;have d:=Lib.hid (p.out.trans (c.mono p.out.size));clear c;go_wp2_with fail
      go_ret;exact ⟨cG (by rw [s.out,o.out]),d.out⟩
     | true=>
      rw [C] at u n
      cases D:(l.take k).contains t with
      | true=>
       have o:Hid ((List.range l.length).all (oG l)=false):=Lib.hid (qG g (by rw [n.out,D];rfl));rw [D] at q;go_wp2_with fail
       refine u.out.mono ?_;rintro e B ⟨rfl,c⟩;have d:=Lib.hid (p.out.trans (c.mono p.out.size));clear c;go_wp2_with fail
       refine (q.out B d.out).mono ?_;rintro e w2 ⟨rfl,rfl⟩;go_wp2_with fail
       go_ret;exact ⟨cG (by rw [s.out,o.out]),d.out⟩
      | false=>
       rw [D] at q n;go_wp2_with fail
       refine u.out.mono ?_;rintro e B ⟨rfl,c⟩;have d:=Lib.hid (p.out.trans (c.mono p.out.size));clear c;go_wp2_with fail
       refine (q.out B d.out).mono ?_;rintro e w2 ⟨rfl,rfl⟩;go_wp2_with fail
       refine ⟨⟨k+1,by omega,by go_num,Lib.hid (fun j I=>?_),d⟩,by simp [intOf];omega⟩
       rcases Nat.lt_or_ge j k with h | h
       ·exact M.out j h
       ·have:j=k:=by omega
        subst this;rw [n.out];rfl
    ·have J:k=l.length:=by omega
     subst J;have o:Hid ((List.range l.length).all (oG l)=true):=Lib.hid (List.all_eq_true.2 (fun j I=>M.out j (List.mem_range.1 I)));go_wp2_with fail
     go_ret;exact ⟨cG (by rw [s.out,o.out]),p.out⟩
  ·have s:Hid (iH l=false):=Lib.hid (by unfold iH;rw [decide_eq_false P];simp);have y:decide ((l.length:Int) < 1)=false:=decide_eq_false (by omega);have H:decide (10 < (l.length:Int))=true:=decide_eq_true (by omega);go_enter Tryz.func219,Tryz.ntmps219;go_wp2_with fail
   go_ret;exact ⟨cG s.out.symm,Below.refl _ _⟩
 ·have s:Hid (iH l=false):=Lib.hid (by unfold iH;rw [decide_eq_false O];simp);have y:decide ((l.length:Int) < 1)=true:=decide_eq_true (by omega);go_enter Tryz.func219,Tryz.ntmps219;go_wp2_with fail
  go_ret;exact ⟨cG s.out.symm,Below.refl _ _⟩
theorem Bf (H:aX) (v:Value) (m:Int) (w:World) (h:bg w v H.tos.length 1 (cm H.tos)) (hz:dQ H) (hm:w.cell? ⟨0,0,none⟩=some (.int .i64 m)):
  Calls Tryz.prog 165 #[.agg (aY H v)] w fun e q=>e= .returned (.bool (dr H))∧Below w.heap.size w q:=by
 obtain ⟨D,c,f,g,d⟩:=H;obtain ⟨z1,z2,z3,z4,X,z6⟩:=hz;simp only at h z1 z2 z3 z4 X z6;obtain ⟨a,o,rfl,_⟩:=h.one;simp only [aY];have h0:=eI hm;have HH:=Lib.hid h;have I:=Lib.hid X;have s:Hid (dr ⟨D,c,f,g,d⟩=(decide (c≤1000000000) && (f.isEmpty || dH f) && iH g && decide (d.length≤1000))):=Lib.hid rfl;obtain ⟨A,y⟩:∃A:World,w.alloc (.cells #[.int .i64 D,.int .i64 c,.string (bs f),.slice a g.length o,.string (bs d)] 45)=A:=⟨_,rfl⟩;have J:Below w.heap.size w A:=by rw [←y];exact (Below.refl _ _).alloc (Nat.le_refl _) _
 have M:A.heap.size=w.heap.size+1:=by rw [←y];simp
 have hx:A.heap[w.heap.size]? =some (.cells #[.int .i64 D,.int .i64 c,.string (bs f),.slice a g.length o,.string (bs d)] 45 (0,0)):=by rw [←y];exact heap_alloc_new w _
 have R:Hid (∀q,Below (w.heap.size+1) A q→Below w.heap.size w q∧q.cell? ⟨w.heap.size,1,none⟩=some (.int .i64 c)∧q.cell? ⟨w.heap.size,2,none⟩=some (.string (bs f))∧q.cell? ⟨w.heap.size,3,none⟩=some (.slice a g.length o)∧q.cell? ⟨w.heap.size,4,none⟩=some (.string (bs d))∧q.cell? ⟨0,0,none⟩=some (.int .i64 m)∧bg q (.slice a g.length o) g.length 1 (cm g)):=Lib.hid (fun q Z=>by
  have F:Below w.heap.size w q:=J.trans (Z.mono (by omega));have O:q.heap[w.heap.size]? =_:=(Z.block w.heap.size (by omega)).trans hx
  exact ⟨F,by rw [Lib.cell_of_heap O];rfl,by rw [Lib.cell_of_heap O];rfl,by rw [Lib.cell_of_heap O];rfl,by rw [Lib.cell_of_heap O];rfl,(F.cell h0).trans hm,HH.out.below F⟩)
 obtain ⟨Y,x1,x2,x3,x4,L,_⟩:=R.out A (Below.refl _ _);have sF:=aG f;have sB:=aG d;have x:=Lib.hid y;have k:=Lib.hid M;have r:=Lib.hid Y;clear h X J hx y M Y;have hd:∀b:Bool,decide ((c:Int)≤1000000000)=b→b=decide (c≤1000000000):=fun b h=>by rw [←h,Bool.eq_iff_iff];simp;omega
 cases S:decide ((c:Int)≤1000000000) with
 | false=>
  have t:Hid (dr ⟨D,c,f,g,d⟩=false):=Lib.hid (by rw [s.out,decide_eq_false (show ¬c≤1000000000 by simp at S;omega)];rfl);clear hd;go_enter Tryz.func165,Tryz.ntmps165;go_wp2_with fail
  rw [x.out];go_ret;exact ⟨cG t.out.symm,r.out⟩
 | true=>
  clear hd
  by_cases E:f=[]
  ·have K:(bs f).toList=[]:=by rw [E,Lib.toList_data];rfl
   have T:(bs f).toList.isEmpty=true:=by rw [K];rfl
   have z:f.isEmpty=true:=by rw [E];rfl
   have C:=Lib.hid z;clear E z;have j:=Lib.hid (Mi g (.slice a g.length o) m A (R.out A (by rw [←k.out];exact Below.refl _ _)).2.2.2.2.2.2 (by omega) I.out L)
   cases p:iH g with
   | false=>
    have t:Hid (dr ⟨D,c,f,g,d⟩=false):=Lib.hid (by rw [s.out,p];simp);rw [p] at j;clear p s;go_enter Tryz.func165,Tryz.ntmps165;go_wp2_with fail
    rw [x.out];refine j.out.mono ?_;rintro e N ⟨rfl,i⟩;have l:=Lib.hid (r.out.trans (i.mono (by rw [k.out];omega)));clear i;go_wp2_with fail
    go_ret;exact ⟨cG t.out.symm,l.out⟩
   | true=>
    have t:Hid (dr ⟨D,c,f,g,d⟩=decide (d.length≤1000)):=Lib.hid (by rw [s.out,p,decide_eq_true (show c≤1000000000 by simp at S;omega),C.out];simp);rw [p] at j;clear p s;go_enter Tryz.func165,Tryz.ntmps165;go_wp2_with fail
    rw [x.out];refine j.out.mono ?_;rintro e N ⟨rfl,i⟩;have y4:N.cell? ⟨w.heap.size,4,none⟩=some (.string (bs d)):=(i.cell (by show w.heap.size < _;rw [k.out];omega)).trans x4;have l:=Lib.hid (r.out.trans (i.mono (by rw [k.out];omega)));clear i;go_wp2_with fail
    go_ret;refine ⟨cG ?_,l.out⟩;rw [t.out,Bool.eq_iff_iff];simp;omega
  ·have K:¬(bs f).toList=[]:=by rw [Lib.toList_data,aI];exact E
   have T:(bs f).toList.isEmpty=false:=by rw [Lib.toList_data,aI];simpa using E
   have z:f.isEmpty=false:=by simpa using E
   have C:=Lib.hid z;have u:=Lib.hid (um f m A (by omega) L);clear E z
   cases G:dH f with
   | false=>
    have t:Hid (dr ⟨D,c,f,g,d⟩=false):=Lib.hid (by rw [s.out,G,C.out];simp);rw [G] at u;clear G s;go_enter Tryz.func165,Tryz.ntmps165;go_wp2_with fail
    rw [x.out];refine u.out.mono ?_;rintro e P ⟨rfl,n⟩;have B:=Lib.hid (r.out.trans (n.mono (by rw [k.out];omega)));clear n;go_wp2_with fail
    go_ret;exact ⟨cG t.out.symm,B.out⟩
   | true=>
    rw [G] at u;have Q:=Lib.hid G;clear G;go_enter Tryz.func165,Tryz.ntmps165;go_wp2_with fail
    rw [x.out];refine u.out.mono ?_;rintro e P ⟨rfl,n⟩;have B:=Lib.hid (r.out.trans (n.mono (by rw [k.out];omega)));obtain ⟨_,y1,y2,y3,W,U,V⟩:=R.out P (by rw [←k.out];exact n);have a0:w.heap.size+1≤P.heap.size:=by have:=n.size;rw [k.out] at this;exact this
    clear n x1 x2 x3 x4 u;have j:=Lib.hid (Mi g (.slice a g.length o) m P V (by omega) I.out U)
    cases p:iH g with
    | false=>
     have t:Hid (dr ⟨D,c,f,g,d⟩=false):=Lib.hid (by rw [s.out,p];simp);rw [p] at j;clear p s;go_wp2_with fail
     refine j.out.mono ?_;rintro e N ⟨rfl,i⟩;have l:=Lib.hid (B.out.trans (i.mono (by omega)));clear i;go_wp2_with fail
     go_ret;exact ⟨cG t.out.symm,l.out⟩
    | true=>
     have t:Hid (dr ⟨D,c,f,g,d⟩=decide (d.length≤1000)):=Lib.hid (by rw [s.out,p,decide_eq_true (show c≤1000000000 by simp at S;omega),C.out,Q.out];simp);rw [p] at j;clear p s;go_wp2_with fail
     refine j.out.mono ?_;rintro e N ⟨rfl,i⟩;have y4:N.cell? ⟨w.heap.size,4,none⟩=some (.string (bs d)):=(i.cell (by show w.heap.size < _;omega)).trans W;have l:=Lib.hid (B.out.trans (i.mono (by omega)));clear i;go_wp2_with fail
     go_ret;refine ⟨cG ?_,l.out⟩;rw [t.out,Bool.eq_iff_iff];simp;omega
def gG (w:World) (b:Nat) (o:Option (List UInt8)):Prop:=
 match o with
 | some l=>w.heap[b]? =some (.cells #[.string (bs l),.bool false] 187 (0,0))∧l.length≤maxLen
 | none=>∃l:List UInt8,w.heap[b]? =some (.cells #[.string (bs l),.bool true] 187 (0,0))
def gK (o:Option (List UInt8×List UInt8)):List UInt8:=(o.map (·.1)).getD []
theorem iY (b k:Nat) (o:Option (List UInt8)) (w:World) (h:gG w b o) (q:k≤maxLen):
  Calls Tryz.prog 112 #[.pointer (some ⟨b,0,none⟩),.int .i64 k] w fun e i=>e= .returned (.string (bs (gK (o.bind (bm k)))))∧gG i b ((o.bind (bm k)).map (·.2))∧aL b w i:=by
 unfold maxLen at q
 cases o with
 | none=>
  obtain ⟨l,a⟩:=h;have j:w.cell? ⟨b,0,none⟩=some (.string (bs l)):=by rw [Lib.cell_of_heap a];rfl
  have m:w.cell? ⟨b,1,none⟩=some (.bool true):=by rw [Lib.cell_of_heap a];rfl
  have n:w.frozen? ⟨b,1,none⟩=false:=Lib.frozen_of_heap a 1;have d:=Lib.hid a;clear a;go_enter Tryz.func112,Tryz.ntmps112;go_wp2_with fail
  go_ret;exact ⟨rfl,⟨l,heap_setCell_same w b 1 _ _ (.bool true) d.out⟩,(aL.refl b w).setCell _⟩
 | some l=>
  obtain ⟨a,g⟩:=h;unfold maxLen at g;have j:w.cell? ⟨b,0,none⟩=some (.string (bs l)):=by rw [Lib.cell_of_heap a];rfl
  have m:w.cell? ⟨b,1,none⟩=some (.bool false):=by rw [Lib.cell_of_heap a];rfl
  have r:w.frozen? ⟨b,0,none⟩=false:=Lib.frozen_of_heap a 0;have n:w.frozen? ⟨b,1,none⟩=false:=Lib.frozen_of_heap a 1;have s:=aG l;have d:=Lib.hid a;clear a
  by_cases c:k≤l.length
  ·have p:decide ((l.length:Int) < (k:Int))=false:=by simp;omega
   have f:decide (l.length < k)=false:=by simp;omega
   go_enter Tryz.func112,Tryz.ntmps112;go_wp2_with fail
   simp only [fW,List.drop_zero,List.take_length];have e:(some l).bind (bm k)=some (l.take k,l.drop k):=by show bm k l=_;unfold bm;rw [if_pos c]
   go_ret;rw [e];exact ⟨rfl,⟨heap_setCell_same w b 0 _ _ (.string (bs (l.drop k))) d.out,by rw [List.length_drop];unfold maxLen;omega⟩,(aL.refl b w).setCell _⟩
  ·have p:decide ((l.length:Int) < (k:Int))=true:=by simp;omega
   have f:decide (l.length < k)=true:=by simp;omega
   go_enter Tryz.func112,Tryz.ntmps112;go_wp2_with fail
   have e:(some l).bind (bm k)=none:=by show bm k l=_;unfold bm;rw [if_neg c]
   go_ret;rw [e];exact ⟨rfl,⟨l,heap_setCell_same w b 1 _ _ (.bool true) d.out⟩,(aL.refl b w).setCell _⟩
theorem Jt {N x:Nat} (a:N < 16777216) (b:x < 256):bits .or .i64 (wrap64 ((N:Int) * 256)) (x:Int)=((256 * N+x:Nat):Int):=by
 rw [IV _ (by omega),bits_join .i64 32 (by decide) Gb 8 _ _ (by omega) (by omega) (by omega) (by omega) (by omega) (by omega)];omega
theorem dZ (b k:Nat) (o:Option (List UInt8)) (w:World) (h:gG w b o) (F:k≤4):
  Calls Tryz.prog 111 #[.pointer (some ⟨b,0,none⟩),.int .i64 k] w fun e v=>e= .returned (.int .i64 (be (gK (o.bind (bm k)))))∧gG v b ((o.bind (bm k)).map (·.2))∧aL b w v:=by
 have a:=iY b k o w h (by unfold maxLen;omega)
 have d:(gK (o.bind (bm k))).length≤4:=by
  cases e:o.bind (bm k) with
  | none=>simp [gK]
  | some x=>
   obtain ⟨l,m,c⟩:=gm e;obtain ⟨y,r⟩:=x;have:=(jH c).2.2.2;show y.length≤4;omega
 obtain ⟨t,s⟩:∃t,gK (o.bind (bm k))=t:=⟨_,rfl⟩;obtain ⟨r,u⟩:∃r,(o.bind (bm k)).map (·.2)=r:=⟨_,rfl⟩;rw [s] at d;rw [s,u] at a ⊢;clear s u h;have G:=aG t;go_enter Tryz.func111,Tryz.ntmps111;go_wp2_with fail
 refine a.mono ?_;rintro e H ⟨rfl,m,c⟩;have z:=Lib.hid m;have A:=Lib.hid c;clear a m c;go_wp2_with fail
 go_loop [6,13] (fun n i=>∃j N:Nat,j≤t.length∧i= .int .i64 j∧n= .int .i64 N∧Hid (N=be (t.take j))) (fun _ i=>t.length - (intOf i).toNat)
 case atStart=>exact ⟨0,0,Nat.zero_le _,rfl,rfl,rfl⟩
 case round=>
  obtain ⟨j,N,E,rfl,rfl,g⟩:=hrel
  by_cases q:j < t.length
  ·have f:j < (bs t).size:=by omega
   have B:Hid (N < 16777216):=Lib.hid (by
    rw [g.out];have m:=Ad (t.take j);have c:256 ^ (t.take j).length≤256 ^ 3:=Nat.pow_le_pow_right (by decide) (by rw [List.length_take];omega);have D:256 ^ 3=16777216:=by decide
    omega)
   go_wp2_with fail
   refine ⟨⟨j+1,be (t.take (j+1)),by omega,by go_num,?_,rfl⟩,by simp [intOf];omega⟩
   refine congrArg (Value.int .i64) ?_;rw [I4 t j q,←Gt t j f,←g.out];have C:=((bs t)[j]).toNat_lt;rw [IV (((bs t)[j]).toNat:Int) (by omega)];exact Jt B.out C
  ·have p:j=t.length:=by omega
   subst p;rw [List.take_length] at g;go_wp2_with fail
   go_ret;exact ⟨congrArg (fun x:Nat=>Ending.returned (.int .i64 (x:Int))) g.out,z.out,A.out⟩
theorem J7 (k:Nat) (o:Option (List UInt8)):((o.bind (bm k)).map (·.2)).bind (bm (be (gK (o.bind (bm k)))))=o.bind (wm k):=by
 cases o with
 | none=>rfl
 | some l=>
  show ((bm k l).map (·.2)).bind (bm (be (gK (bm k l))))=wm k l;unfold wm fZ bm
  by_cases h:k≤l.length
  ·rw [if_pos h,if_pos h];rfl
  ·rw [if_neg h,if_neg h];rfl
theorem uM (k:Nat) (o:Option (List UInt8)):(o.bind (bm k)).map (·.2)=(o.bind (fZ k)).map (·.2)∧be (gK (o.bind (bm k)))=((o.bind (fZ k)).map (·.1)).getD 0:=by
 cases o with
 | none=>exact ⟨rfl,rfl⟩
 | some l=>
  show (bm k l).map (·.2)=(fZ k l).map (·.2)∧be (gK (bm k l))=((fZ k l).map (·.1)).getD 0;unfold fZ bm
  by_cases h:k≤l.length
  ·rw [if_pos h,if_pos h];exact ⟨rfl,rfl⟩
  ·rw [if_neg h,if_neg h];exact ⟨rfl,rfl⟩
theorem oT (b k:Nat) (o:Option (List UInt8)) (w:World) (h:gG w b o) (F:k≤4):
  Calls Tryz.prog 163 #[.pointer (some ⟨b,0,none⟩),.int .i64 k] w fun e i=>e= .returned (.string (bs (gK (o.bind (wm k)))))∧gG i b ((o.bind (wm k)).map (·.2))∧aL b w i:=by
 have c:=dZ b k o w h F
 have v:be (gK (o.bind (bm k)))≤maxLen:=by
  have f:(gK (o.bind (bm k))).length≤4:=by
   cases e:o.bind (bm k) with
   | none=>simp [gK]
   | some x=>
    obtain ⟨l,q,g⟩:=gm e;obtain ⟨y,r⟩:=x;have:=(jH g).2.2.2;show y.length≤4;omega
  have:=sQ f;unfold maxLen;omega
 have a:=fun i E=>iY b (be (gK (o.bind (bm k)))) ((o.bind (bm k)).map (·.2)) i E v;rw [J7] at a;obtain ⟨N,m⟩:∃N,be (gK (o.bind (bm k)))=N:=⟨_,rfl⟩;obtain ⟨r,n⟩:∃r,(o.bind (bm k)).map (·.2)=r:=⟨_,rfl⟩;obtain ⟨t,p⟩:∃t,gK (o.bind (wm k))=t:=⟨_,rfl⟩;obtain ⟨z,d⟩:∃z,(o.bind (wm k)).map (·.2)=z:=⟨_,rfl⟩;rw [m,n] at c;rw [m,n,p,d] at a;rw [p,d];have j:=Lib.hid a;clear a v m n p d h;go_enter Tryz.func163,Tryz.ntmps163;go_wp2_with fail
 refine c.mono ?_;rintro e G ⟨rfl,q,g⟩;have A:=Lib.hid q;have B:=Lib.hid g;clear c q g;go_wp2_with fail
 refine (j.out _ A.out).mono ?_;rintro e H ⟨rfl,s,u⟩;have C:=Lib.hid s;have D:=Lib.hid (B.out.trans u);clear s u;go_wp2_with fail
 go_ret;exact ⟨rfl,C.out,D.out⟩
theorem ue (b:Nat) (o:Option (List UInt8)) (w:World) (h:gG w b o):
  Calls Tryz.prog 164 #[.pointer (some ⟨b,0,none⟩)] w fun e f=>e= .returned (.bool (decide (o=some [])))∧w=f:=by
 cases o with
 | none=>
  obtain ⟨l,a⟩:=h;have c:w.cell? ⟨b,0,none⟩=some (.string (bs l)):=by rw [Lib.cell_of_heap a];rfl
  have d:w.cell? ⟨b,1,none⟩=some (.bool true):=by rw [Lib.cell_of_heap a];rfl
  clear a;go_enter Tryz.func164,Tryz.ntmps164;go_wp2_with fail
  go_ret;exact ⟨cG (by simp),rfl⟩
 | some l=>
  obtain ⟨a,_⟩:=h;have c:w.cell? ⟨b,0,none⟩=some (.string (bs l)):=by rw [Lib.cell_of_heap a];rfl
  have d:w.cell? ⟨b,1,none⟩=some (.bool false):=by rw [Lib.cell_of_heap a];rfl
  clear a;go_enter Tryz.func164,Tryz.ntmps164;go_wp2_with fail
  go_ret;exact ⟨cG (by rw [Lib.toList_data,aI];cases l <;> simp),rfl⟩
def gj (k:Nat) (o:Option (List UInt8)):Nat×Option (List UInt8):=(be (gK (o.bind (bm k))),(o.bind (bm k)).map (·.2))
def jX (k:Nat) (o:Option (List UInt8)):List UInt8×Option (List UInt8):=(gK (o.bind (wm k)),(o.bind (wm k)).map (·.2))
def jh:Nat→Option (List UInt8)→List (List UInt8)×Option (List UInt8)
 | 0,o=>([],o)
 | n+1,o=>((jh n o).1++[(jX 1 (jh n o).2).1],(jX 1 (jh n o).2).2)
def iM:Nat→Option (List UInt8)→List Nat×Option (List UInt8)
 | 0,o=>([],o)
 | n+1,o=>((iM n o).1++[(gj 1 (iM n o).2).1],(gj 1 (iM n o).2).2)
def mG {α:Type} (x:α×Option (List UInt8)):Option (α×List UInt8):=x.2.map fun r=>(x.1,r)
theorem kh (k:Nat):gj k none=(0,none):=rfl
theorem rl (k:Nat):jX k none=([],none):=rfl
theorem pj:∀n,(jh n none).2=none
 | 0=>rfl
 | n+1=>by rw [jh,pj n];rfl
theorem l7:∀n,(iM n none).2=none
 | 0=>rfl
 | n+1=>by rw [iM,l7 n];rfl
theorem jI (k:Nat) (l:List UInt8):fZ k l=mG (gj k (some l)):=by
 unfold gj mG fZ;show _=((bm k l).map (·.2)).map _;unfold bm
 by_cases h:k≤l.length
 ·rw [if_pos h,if_pos h];show _=some (be (gK ((some l).bind fun l=>if k≤l.length then some (l.take k,l.drop k) else none)),l.drop k);rw [sb,if_pos h];rfl
 ·rw [if_neg h,if_neg h];rfl
theorem wc (k:Nat) (l:List UInt8):wm k l=mG (jX k (some l)):=by
 unfold jX mG;show _=((wm k l).map (·.2)).map fun r=>(gK (wm k l),r)
 cases wm k l with
 | none=>rfl
 | some x=>rfl
theorem wh:∀(n:Nat) (o:Option (List UInt8)),jh (n+1) o=((jX 1 o).1::(jh n (jX 1 o).2).1,(jh n (jX 1 o).2).2)
 | 0,o=>rfl
 | n+1,o=>by
  rw [jh,wh n o];rw [jh];rfl
theorem uO:∀(n:Nat) (o:Option (List UInt8)),iM (n+1) o=((gj 1 o).1::(iM n (gj 1 o).2).1,(iM n (gj 1 o).2).2)
 | 0,o=>rfl
 | n+1,o=>by
  rw [iM,uO n o];rw [iM];rfl
theorem yo:∀(n:Nat) (l:List UInt8),xp n l=mG (jh n (some l))
 | 0,l=>rfl
 | n+1,l=>by
  rw [xp,wc,wh]
  cases h:(jX 1 (some l)).2 with
  | none=>
   have e:mG (jX 1 (some l))=none:=by unfold mG;rw [h];rfl
   rw [e];unfold mG;rw [pj];rfl
  | some r=>
   have e:mG (jX 1 (some l))=some ((jX 1 (some l)).1,r):=by unfold mG;rw [h];rfl
   rw [e,sb,yo n r];unfold mG
   cases (jh n (some r)).2 <;> rfl
theorem uP:∀(n:Nat) (l:List UInt8),oB n l=mG (iM n (some l))
 | 0,l=>rfl
 | n+1,l=>by
  rw [oB,jI,uO]
  cases h:(gj 1 (some l)).2 with
  | none=>
   have e:mG (gj 1 (some l))=none:=by unfold mG;rw [h];rfl
   rw [e];unfold mG;rw [l7];rfl
  | some r=>
   have e:mG (gj 1 (some l))=some ((gj 1 (some l)).1,r):=by unfold mG;rw [h];rfl
   rw [e,sb,uP n r];unfold mG
   cases (iM n (some r)).2 <;> rfl
theorem Db (r:List UInt8) {m k n l o j:Option (List UInt8)} {I T N:Nat} {f B:List UInt8} {p:List (List UInt8)} (s:gj 4 (some r)=(I,m)) (g:gj 4 m=(T,k)) (i:jX 1 k=(f,n)) (a:gj 1 n=(N,l)) (q:jh N l=(p,o)) (b:jX 2 o=(B,j)):
  nk r=if j=some [] then some ⟨I,T,f,p,B⟩ else none:=by
 have c:l=none→j=none:=fun e=>by
  subst e;have:=pj N;rw [q] at this;simp only at this;subst this;rw [rl] at b;injection b with _ b;exact b.symm
 have d:k=none→j=none:=fun e=>by
  subst e;rw [rl] at i;injection i with _ i;subst i;rw [kh] at a;injection a with _ a;exact c a.symm
 unfold nk;rw [jI,s]
 cases m with
 | none=>
  rw [kh] at g;injection g with _ g;rw [d g.symm];rfl
 | some r1=>
  show ((fZ 4 r1).bind _)=_;rw [jI,g]
  cases k with
  | none=>rw [d rfl];rfl
  | some r2=>
   show ((wm 1 r2).bind _)=_;rw [wc,i]
   cases n with
   | none=>
    rw [kh] at a;injection a with _ a;rw [c a.symm];rfl
   | some r3=>
    show ((fZ 1 r3).bind _)=_;rw [jI,a]
    cases l with
    | none=>rw [c rfl];rfl
    | some r4=>
     show ((xp N r4).bind _)=_;rw [yo,q]
     cases o with
     | none=>
      rw [rl] at b;injection b with _ b;rw [←b];rfl
     | some r5=>
      show ((wm 2 r5).bind _)=_;rw [wc,b]
      cases j with
      | none=>rfl
      | some r6=>
       show (if r6=[] then _ else _)=_
       by_cases h:r6=[]
       ·rw [if_pos h,if_pos (by rw [h])]
       ·rw [if_neg h,if_neg (by intro e;injection e with e;exact h e)]
theorem C4 (r:List UInt8) {f c d:Option (List UInt8)} {I N:Nat} {g:List Nat} (j:gj 4 (some r)=(I,f)) (b:gj 1 f=(N,c)) (i:iM N c=(g,d)):
  rI r=if d=some [] then some (I,g) else none:=by
 have a:c=none→d=none:=fun e=>by
  subst e;have:=l7 N;rw [i] at this;exact this
 unfold rI;rw [jI,j]
 cases f with
 | none=>
  rw [kh] at b;injection b with _ b;rw [a b.symm];rfl
 | some r1=>
  show ((fZ 1 r1).bind _)=_;rw [jI,b]
  cases c with
  | none=>rw [a rfl];rfl
  | some r2=>
   show ((oB N r2).bind _)=_;rw [uP,i]
   cases d with
   | none=>rfl
   | some r3=>
    show (if r3=[] then _ else _)=_
    by_cases h:r3=[]
    ·rw [if_pos h,if_pos (by rw [h])]
    ·rw [if_neg h,if_neg (by intro e;injection e with e;exact h e)]
theorem lZ (k:Nat) (o:Option (List UInt8)):(gj k o).1 < 256 ^ k:=by
 unfold gj
 cases e:o.bind (bm k) with
 | none=>exact Nat.pow_pos (by decide)
 | some x=>
  obtain ⟨l,_,a⟩:=gm e;obtain ⟨y,r⟩:=x;have:=(jH a).2.2.2;have h:=Ad y;rw [this] at h;exact h
theorem tj (k:Nat) (o:Option (List UInt8)):(jX k o).1.length < 256 ^ k:=by
 unfold jX
 cases e:o.bind (wm k) with
 | none=>exact Nat.pow_pos (by decide)
 | some x=>
  obtain ⟨l,_,a⟩:=gm e;obtain ⟨y,r⟩:=x;exact (ti a).2.2.2
theorem yp:∀(n:Nat) (o:Option (List UInt8)),(jh n o).1.length=n
 | 0,_=>rfl
 | n+1,o=>by rw [jh,List.length_append,yp n];rfl
theorem BZ:∀(n:Nat) (o:Option (List UInt8)),∀t∈(jh n o).1,t.length < 256
 | 0,_,t,h=>by cases h
 | n+1,o,t,h=>by
  rw [jh] at h
  rcases List.mem_append.1 h with h | h
  ·exact BZ n o t h
  ·simp only [List.mem_singleton] at h;subst h;exact tj 1 _
theorem xW:∀(n:Nat) (o:Option (List UInt8)),(iM n o).1.length=n
 | 0,_=>rfl
 | n+1,o=>by rw [iM,List.length_append,xW n];rfl
theorem Bp:∀(n:Nat) (o:Option (List UInt8)),∀x∈(iM n o).1,x < 256
 | 0,_,t,h=>by cases h
 | n+1,o,t,h=>by
  rw [iM] at h
  rcases List.mem_append.1 h with h | h
  ·exact Bp n o t h
  ·simp only [List.mem_singleton] at h;subst h;exact lZ 1 _
def lf:aX:=⟨0,0,[],[],[]⟩
def yw (l:List UInt8) (w:World) (e:Ending) (w':World):Prop:=
 (bP l=none∧e= .returned (.tuple #[.agg (aY lf (.slice none 0 0)),.bool false])∨∃mm v,bP l=some mm∧e= .returned (.tuple #[.agg (aY mm v),.bool true])∧w'.ownsRow w.heap.size 9 1 v mm.tos.length (cm mm.tos)∧dQ mm)∧Below w.heap.size w w'
structure RS (w wk:World) (s:Nat) (o:Option (List UInt8)) (I T:Nat) (f:List UInt8) (v:Value) (B:List UInt8):Prop where
 fd:gG wk (s+1) o
 res:gu wk s 0 0 [] (.slice none 0 0) []
 mail:gu wk (s+2) I T f v B
 below:Below s w wk
 size:s+3≤wk.heap.size
theorem gG.same {w d:World} {b s:Nat} {o:Option (List UInt8)} (h:gG w b o) (c:aL s w d) (a:b≠s):gG d b o:=by
 cases o with
 | none=>obtain ⟨l,h⟩:=h;exact ⟨l,(c.2 b a).trans h⟩
 | some l=>exact ⟨(c.2 b a).trans h.1,h.2⟩
theorem gG.blk {w c:World} {b:Nat} {o:Option (List UInt8)} (h:gG w b o) (a:c.heap[b]? =w.heap[b]?):gG c b o:=by
 cases o with
 | none=>obtain ⟨l,h⟩:=h;exact ⟨l,a.trans h⟩
 | some l=>exact ⟨a.trans h.1,h.2⟩
theorem RS.fdStep {w d a:World} {s I T:Nat} {o c:Option (List UInt8)} {f B:List UInt8} {v:Value} (h:RS w d s o I T f v B) (b:aL (s+1) d a) (e:gG a (s+1) c):RS w a s c I T f v B:=
 ⟨e,h.res.same b (by omega),h.mail.same b (by omega),h.below.trans (b.below (by omega)),by rw [b.1];exact h.size⟩
theorem RS.keep {w c b:World} {s I T:Nat} {o:Option (List UInt8)} {f B:List UInt8} {v:Value} (h:RS w c s o I T f v B) (a:Below c.heap.size c b):RS w b s o I T f v B:=by
 have d:=h.size;refine ⟨h.fd.blk (a.block (s+1) (by omega)),?_,?_,h.below.trans (a.mono (by omega)),Nat.le_trans h.size a.size⟩
 ·have:=h.res;unfold gu at this ⊢;rw [a.block s (by omega)];exact this
 ·have:=h.mail;unfold gu at this ⊢;rw [a.block (s+2) (by omega)];exact this
theorem RS.cellAt {w a:World} {s I T:Nat} {o:Option (List UInt8)} {f B:List UInt8} {v:Value} (h:RS w a s o I T f v B) (j:Nat):a.cell? ⟨s+2,j,none⟩=(#[.int .i64 I,.int .i64 T,.string (bs f),v,.string (bs B)]:Array Value)[j]? ∧a.frozen? ⟨s+2,j,none⟩=false:=h.mail.cell j
theorem RS.set {w a:World} {s I T I' T' j:Nat} {o:Option (List UInt8)} {f B f' B':List UInt8} {v v' u:Value} (h:RS w a s o I T f v B) (e:(#[.int .i64 I,.int .i64 T,.string (bs f),v,.string (bs B)]:Array Value).setIfInBounds j u=#[.int .i64 I',.int .i64 T',.string (bs f'),v',.string (bs B')]):RS w (a.setCell ⟨s+2,j,none⟩ u) s o I' T' f' v' B':=by
 have b:aL (s+2) a (a.setCell ⟨s+2,j,none⟩ u):=(aL.refl _ _).setCell _;refine ⟨h.fd.same b (by omega),h.res.same b (by omega),?_,h.below.trans (b.below (by omega)),by rw [b.1];exact h.size⟩
 have:=heap_setCell_same a (s+2) j _ _ u h.mail;unfold gu;rw [this,e]
theorem RS.ofGrown {w d m l:World} {s I T n:Nat} {o:Option (List UInt8)} {f B:List UInt8} {v:Value} {q:List Value} (h:RS w d s o I T f v B) (p:d.ownsRow (s+3) 9 1 v n q) (c:Below d.heap.size d m) (g:m.grownBy l v.ownBlock):RS w l s o I T f v B:=by
 have t:=h.size;have a:∀j,v.ownBlock=some j→s+3≤j:=fun j i=>(p.lt j i).1
 have b:∀k,k < s+3→l.heap[k]? =d.heap[k]? :=fun k r=>by
  rw [g.block k (by have:=c.size;omega) (fun e=>by have:=a k e.symm;omega),c.block k (by omega)]
 refine ⟨h.fd.blk (b _ (by omega)),?_,?_,?_,by have:=c.size;have:=g.size;omega⟩
 ·have:=h.res;unfold gu at this ⊢;rw [b s (by omega)];exact this
 ·have:=h.mail;unfold gu at this ⊢;rw [b (s+2) (by omega)];exact this
 ·exact (h.below.trans (c.mono (by omega))).grown g (by have:=c.size;omega) (fun j i=>by have:=a j i;omega)
theorem ka (l:List UInt8) (m:Int) (w:World) (hl:l.length≤536870912) (hm:w.cell? ⟨0,0,none⟩=some (.int .i64 m)):
  Calls Tryz.prog 114 #[.string (bs l)] w (yw l w):=by
 have h0:=eI hm;have sl:=aG l;obtain ⟨s,hs⟩:∃s,w.heap.size=s:=⟨_,rfl⟩;rw [hs] at h0;obtain ⟨W0,V⟩:∃W0:World,(w.alloc (.cells #[.int .i64 0,.int .i64 0,.string ⟨#[]⟩,.slice none 0 0,.string ⟨#[]⟩] 45)).alloc (.cells #[.string (bs l),.bool false] 187)=W0:=⟨_,rfl⟩;have F0:gG W0 (s+1) (some l):=⟨by rw [←V,←hs];have:=heap_alloc_new (w.alloc (.cells #[.int .i64 0,.int .i64 0,.string ⟨#[]⟩,.slice none 0 0,.string ⟨#[]⟩] 45)) (.cells #[.string (bs l),.bool false] 187);simpa using this,by unfold maxLen;omega⟩
 have R0:gu W0 s 0 0 [] (.slice none 0 0) []:=by
  unfold gu;rw [←V,←hs,((Below.refl (w.alloc (.cells #[.int .i64 0,.int .i64 0,.string ⟨#[]⟩,.slice none 0 0,.string ⟨#[]⟩] 45)).heap.size _).alloc (Nat.le_refl _) _).block w.heap.size (by simp)];exact heap_alloc_new w _
 have B0:Below s w W0:=by rw [←V];exact ((Below.refl _ _).alloc (by omega) _).alloc (by simp;omega) _
 have Z0:W0.heap.size=s+2:=by rw [←V,←hs];simp
 have R:=Lib.hid (iY (s+1) 1 (some l) W0 F0 (by decide));have b7:=Lib.hid V;have U:=Lib.hid hs;have a6:=Lib.hid R0;have a4:=Lib.hid B0;have f5:=Lib.hid Z0;clear V F0 R0 B0 Z0
 by_cases a0:l.take 1=[77]
 ·obtain ⟨r,hr⟩:∃r,l.drop 1=r:=⟨_,rfl⟩;have HL:Hid (l=77::r):=Lib.hid (by rw [←List.take_append_drop 1 l,a0,hr];rfl)
  have e1:(some l).bind (bm 1)=some ([77],r):=by
   show bm 1 l=_;rw [HL.out];rfl
  have S:Hid (bP l=(nk r).bind fun m=>if dr m then some m else none):=Lib.hid (by
   rw [HL.out];unfold bP;simp only;rw [if_pos trivial])
  rw [e1] at R;have l6:r.length≤536870912:=by rw [←hr,List.length_drop];omega
  clear e1 hr a0;go_enter Tryz.func114,Tryz.ntmps114;go_wp2_with fail
  rw [b7.out];refine R.out.mono ?_;rintro e W ⟨rfl,B,y⟩
  have m1:((bs (gK (some ([77],r)))).toList == [77])=true:=by
   show ((bs [77]).toList == [77])=true;rw [qM];rfl
  have F1:gG W (s+1) (some r):=B;have O:=a6.out.same y (by omega);have B1:=a4.out.trans (y.below (by omega));have Z1:W.heap.size=s+2:=y.1.trans f5.out;obtain ⟨W2,a1⟩:∃W2:World,W.alloc (.cells #[.int .i64 0,.int .i64 0,.string ⟨#[]⟩,.slice none 0 0,.string ⟨#[]⟩] 45)=W2:=⟨_,rfl⟩
  have S2:RS w W2 s (some r) 0 0 [] (.slice none 0 0) []:=by
   have hb:Below W.heap.size W W2:=by rw [←a1];exact (Below.refl _ _).alloc (Nat.le_refl _) _
   refine ⟨F1.blk (hb.block (s+1) (by omega)),?_,?_,B1.trans (hb.mono (by omega)),by rw [←a1];simp;omega⟩
   ·unfold gu at O ⊢;rw [hb.block s (by omega)];exact O
   ·unfold gu;rw [←a1,←Z1];exact heap_alloc_new W _
  have b3:=Lib.hid S2;have e6:=Lib.hid a1;clear B y F1 O B1 R a6 a4 f5 b7 S2 a1;obtain ⟨I,o1,hI⟩:∃I o1,gj 4 (some r)=(I,o1):=⟨_,_,rfl⟩;have i4:I≤4294967295:=by have:=lZ 4 (some r);rw [hI] at this;simp at this;omega
  have A:Calls Tryz.prog 111 #[.pointer (some ⟨s+1,0,none⟩),.int .i64 4] W2 fun e q=>e= .returned (.int .i64 (gj 4 (some r)).1)∧gG q (s+1) (gj 4 (some r)).2∧aL (s+1) W2 q:=dZ (s+1) 4 (some r) W2 b3.out.fd (by decide);rw [hI] at A;have Q:=Lib.hid A;have HI:=Lib.hid hI;clear A hI;go_wp2_with fail
  rw [e6.out];refine Q.out.mono ?_;rintro e w3 ⟨rfl,B,y⟩;have S3:=b3.out.fdStep y B;obtain ⟨c0,f0⟩:=S3.cellAt 0;have c7:RS w (w3.setCell ⟨s+2,0,none⟩ (.int .i64 I)) s o1 I 0 [] (.slice none 0 0) []:=S3.set rfl;obtain ⟨W3,d2⟩:∃W3:World,w3.setCell ⟨s+2,0,none⟩ (.int .i64 I)=W3:=⟨_,rfl⟩;rw [d2] at c7;have b4:=Lib.hid c7;have e7:=Lib.hid d2;clear B y S3 c7 d2 Q b3 e6;obtain ⟨T,o2,hT⟩:∃T o2,gj 4 o1=(T,o2):=⟨_,_,rfl⟩;have i5:T≤4294967295:=by have:=lZ 4 o1;rw [hT] at this;simp at this;omega
  have A:Calls Tryz.prog 111 #[.pointer (some ⟨s+1,0,none⟩),.int .i64 4] W3 fun e q=>e= .returned (.int .i64 (gj 4 o1).1)∧gG q (s+1) (gj 4 o1).2∧aL (s+1) W3 q:=dZ (s+1) 4 o1 W3 b4.out.fd (by decide);rw [hT] at A;have Q:=Lib.hid A;have HT:=Lib.hid hT;clear A hT;go_wp2_with fail
  rw [e7.out];refine Q.out.mono ?_;rintro e w4 ⟨rfl,B,y⟩;have S4:=b4.out.fdStep y B;obtain ⟨c1,f1⟩:=S4.cellAt 1;have c8:RS w (w4.setCell ⟨s+2,1,none⟩ (.int .i64 T)) s o2 I T [] (.slice none 0 0) []:=S4.set rfl;obtain ⟨W4,d3⟩:∃W4:World,w4.setCell ⟨s+2,1,none⟩ (.int .i64 T)=W4:=⟨_,rfl⟩;rw [d3] at c8;have b5:=Lib.hid c8;have e8:=Lib.hid d3;clear B y S4 c8 d3 Q b4 e7 c0 f0;obtain ⟨f,o3,hf⟩:∃f o3,jX 1 o2=(f,o3):=⟨_,_,rfl⟩;have i8:f.length≤255:=by have:=tj 1 o2;rw [hf] at this;simp at this;omega
  have A:Calls Tryz.prog 163 #[.pointer (some ⟨s+1,0,none⟩),.int .i64 1] W4 fun e q=>e= .returned (.string (bs (jX 1 o2).1))∧gG q (s+1) (jX 1 o2).2∧aL (s+1) W4 q:=oT (s+1) 1 o2 W4 b5.out.fd (by decide);rw [hf] at A;have Q:=Lib.hid A;have HF:=Lib.hid hf;have sf:=aG f;clear A hf;go_wp2_with fail
  rw [e8.out];refine Q.out.mono ?_;rintro e w5 ⟨rfl,B,y⟩;have e2:=Lib.hid (b5.out.fdStep y B);have L:=Lib.hid (iw (bs f) w5 (by omega));clear B y Q b5 e8 c1 f1;go_wp2_with fail
  refine L.out.mono ?_;rintro e w6 ⟨rfl,g6⟩;have S6:=e2.out.keep g6;obtain ⟨c2,f2⟩:=S6.cellAt 2;have d0:RS w (w6.setCell ⟨s+2,2,none⟩ (.string (bs f))) s o3 I T f (.slice none 0 0) []:=S6.set rfl;obtain ⟨W6,d4⟩:∃W6:World,w6.setCell ⟨s+2,2,none⟩ (.string (bs f))=W6:=⟨_,rfl⟩;rw [d4] at d0;have b6:=Lib.hid d0;have e9:=Lib.hid d4;clear g6 S6 d0 d4 L e2;obtain ⟨N,o4,hN⟩:∃N o4,gj 1 o3=(N,o4):=⟨_,_,rfl⟩;have l4:N≤255:=by have:=lZ 1 o3;rw [hN] at this;simp at this;omega
  have A:Calls Tryz.prog 111 #[.pointer (some ⟨s+1,0,none⟩),.int .i64 1] W6 fun e q=>e= .returned (.int .i64 (gj 1 o3).1)∧gG q (s+1) (gj 1 o3).2∧aL (s+1) W6 q:=dZ (s+1) 1 o3 W6 b6.out.fd (by decide);rw [hN] at A;have Q:=Lib.hid A;have HN:=Lib.hid hN;clear A hN;go_wp2_with fail
  rw [e9.out];refine Q.out.mono ?_;rintro e w7 ⟨rfl,B,y⟩;have e3:=Lib.hid (b6.out.fdStep y B);clear B y Q b6 e9 c2 f2;go_wp2_with fail
  obtain ⟨is,i9,g8,g9,h3⟩:=info_parts nR;go_loopw [19] (fun i q=>∃(k:Nat) (v:Value) (z:List (List UInt8)) (o:Option (List UInt8)),k≤N∧i= .int .i64 k∧Hid (jh k o4=(z,o))∧Hid (RS w q s o I T f v [])∧Hid (q.ownsRow (s+3) 9 1 v k (cm z))) (fun i _=>N - (intOf i).toNat)
  case atStart=>exact ⟨0,_,[],o4,Nat.zero_le _,rfl,Lib.hid rfl,e3,Lib.hid (World.ownsRow_nil _ _ _ _)⟩
  case round=>
   clear e3;obtain ⟨k,v,z,o,hk,rfl,a8,HS,HO⟩:=hrel
   obtain ⟨C,H,F,rfl⟩:∃a n c,v= .slice a n c:=by
    rcases HO.out.2 with ⟨e,_⟩ | ⟨g,l1,l2,e,_⟩
    ·exact ⟨_,_,_,e⟩
    ·exact ⟨_,_,_,e⟩
   by_cases l5:k < N
   ·have k8:(k:Int) < (N:Int):=by omega
    obtain ⟨t,o',ht⟩:∃t o',jX 1 o=(t,o'):=⟨_,_,rfl⟩;have l8:t.length≤255:=by have:=tj 1 o;rw [ht] at this;simp at this;omega
    have st:=aG t;have h6:Hid (jh (k+1) o4=(z++[t],o')):=Lib.hid (by rw [jh,a8.out];simp only [ht])
    have h9:Hid (∀q,gG q (s+1) o→Calls Tryz.prog 163 #[.pointer (some ⟨s+1,0,none⟩),.int .i64 1] q fun e P=>e= .returned (.string (bs t))∧gG P (s+1) o'∧aL (s+1) q P):=Lib.hid (fun q h'=>by
     have A:Calls Tryz.prog 163 #[.pointer (some ⟨s+1,0,none⟩),.int .i64 1] q fun e P=>e= .returned (.string (bs (jX 1 o).1))∧gG P (s+1) (jX 1 o).2∧aL (s+1) q P:=oT (s+1) 1 o q h' (by decide);rw [ht] at A
     exact A)
    have L:Hid (∀q,Calls Tryz.prog 69 #[.string (bs t)] q fun e P=>e= .returned (.string (bs t))∧Below q.heap.size q P):=Lib.hid (fun q=>iw (bs t) q (by omega));have Sd:Hid (RS w wr.drew s o I T f (.slice C H F) []):=Lib.hid (HS.out.keep ((Below.refl _ _).drew));have Od:Hid (wr.drew.ownsRow (s+3) 9 1 (.slice C H F) k (cm z)):=Lib.hid HO.out.drew;have c3:wr.drew.cell? ⟨s+2,3,none⟩=some (.slice C H F):=(Sd.out.cellAt 3).1;have l0:wr.cell? ⟨s+2,3,none⟩=some (.slice C H F):=(HS.out.cellAt 3).1;clear ht;go_wp2_with fail
    go_region_law (first
     | (refine step_append_lies _ (by rfl) _ _ _ (by rfl) (s+3) 9 is _ 1 16 Tryz.underlying25 i9 g8 g9 h3 rfl (by decide) (.slice C H F) k (cm z) (by rfl) (f6.out.alloc _) ⟨J.heap.size,0,none⟩ 1 1 [.string (bs t)] (by rfl) (by rfl) (World.news_of_block (cs:=#[.string (bs t)]) (t:=9) (fr:=(0,0)) (heap_alloc_new J _)) (by simp [Value.oneCell']) (by decide) (by unfold maxLen;omega) (by omega) (by simp;omega) (J.heap.size+1) (by simp) ?_;intro ga E p b0 a3 i6 j2;have b:=Lib.hid (c6.out.ofGrown f6.out ((Below.refl _ _).alloc (Nat.le_refl _) _) a3);have j3:p.cell? ⟨s+2,3,none⟩=some (.slice C H F):=(b.out.cellAt 3).1;have i3:=(b.out.cellAt 3).2;have k5:(p.setCell ⟨s+2,3,none⟩ (.slice (some ⟨ga,0,none⟩) (k+1) E)).cell? ⟨s+2,3,none⟩=some (.slice (some ⟨ga,0,none⟩) (k+1) E):=((b.out.set (u:= .slice (some ⟨ga,0,none⟩) (k+1) E) rfl).cellAt 3).1;have e0:=Lib.hid b0;clear b0 a3 i6)
     | (go_simp;go_at_call 163;refine (h9.out _ Sd.out.fd).mono ?_;rintro e w9 ⟨rfl,B,y⟩;have S9:=Lib.hid (Sd.out.fdStep y B);have O9:=Lib.hid (dJ Od.out y (by omega));have c9:w9.cell? ⟨s+2,3,none⟩=some (.slice C H F):=(S9.out.cellAt 3).1;clear B y;dsimp only)
     | (go_simp;go_at_call 69;refine (L.out _).mono ?_;rintro e J ⟨rfl,a2⟩;have c6:=Lib.hid (S9.out.keep a2);have f6:=Lib.hid (dG (cJ.below (ts:=[]) a2) (by simp) O9.out);have f8:J.cell? ⟨s+2,3,none⟩=some (.slice C H F):=(c6.out.cellAt 3).1;have m0:=c6.out.size;have k7:∀o:Obj,(J.alloc o).cell? ⟨s+2,3,none⟩=some (.slice C H F):=(fun o=>(((Below.refl J.heap.size J).alloc (Nat.le_refl _) o).cell (eI f8)).trans f8);clear a2;dsimp only))
    all_goals
     have i2:=Lib.hid (b.out.set (j:=3) (u:= .slice (some ⟨ga,0,none⟩) (k+1) E) (I':=I) (T':=T) (f':=f) (B':=[]) (v':= .slice (some ⟨ga,0,none⟩) (k+1) E) rfl);have i1:=Lib.hid (dJ e0.out (show aL (s+2) p (p.setCell ⟨s+2,3,none⟩ (.slice (some ⟨ga,0,none⟩) (k+1) E)) from (aL.refl _ _).setCell _) (by omega));clear j3 i3 k5 e0 b;go_wp2_with fail
     exact ⟨⟨k+1,_,z++[t],o',by omega,by go_num,h6,i2,Lib.hid (by rw [show cm (z++[t])=cm z++[.string (bs t)] by simp [cm]];exact i1.out)⟩,by simp [intOf];omega⟩
   ·have j1:k=N:=by omega
    subst j1;have f9:z.length=k:=by have:=yp k o4;rw [a8.out] at this;exact this
    have g5:∀t∈z,t.length < 256:=by have:=BZ k o4;rw [a8.out] at this;exact this
    have e5:=Lib.hid f9;have h8:=Lib.hid g5;obtain ⟨D,o6,hD⟩:∃D o6,jX 2 o=(D,o6):=⟨_,_,rfl⟩;have l3:D.length≤65535:=by have:=tj 2 o;rw [hD] at this;simp at this;omega
    have a5:Hid (nk r=if o6=some [] then some ⟨I,T,f,z,D⟩ else none):=Lib.hid (Db r HI.out HT.out HF.out HN.out a8.out hD);have A:Calls Tryz.prog 163 #[.pointer (some ⟨s+1,0,none⟩),.int .i64 2] wr fun e q=>e= .returned (.string (bs (jX 2 o).1))∧gG q (s+1) (jX 2 o).2∧aL (s+1) wr q:=oT (s+1) 2 o wr HS.out.fd (by decide);rw [hD] at A;have Q:=Lib.hid A;have sD:=aG D;clear A hD f9 g5;go_wp2_with fail
    refine Q.out.mono ?_;rintro e w8 ⟨rfl,B,y⟩;have e4:=Lib.hid (HS.out.fdStep y B);have d9:=Lib.hid (dJ HO.out y (by omega));have L:=Lib.hid (iw (bs D) w8 (by omega));clear B y Q HS HO;go_wp2_with fail
    refine L.out.mono ?_;rintro e w9 ⟨rfl,d6⟩;have S9:=e4.out.keep d6;have O9:=dG (cJ.below (ts:=[]) d6) (by simp) d9.out;obtain ⟨c4,f4⟩:=S9.cellAt 4;have k0:w9.cell? ⟨s+2,0,none⟩=some (.int .i64 I):=(S9.cellAt 0).1;have k1:w9.cell? ⟨s+2,1,none⟩=some (.int .i64 T):=(S9.cellAt 1).1;have k2:w9.cell? ⟨s+2,2,none⟩=some (.string (bs f)):=(S9.cellAt 2).1;have k3:w9.cell? ⟨s+2,3,none⟩=some (.slice C H F):=(S9.cellAt 3).1;have a9:RS w (w9.setCell ⟨s+2,4,none⟩ (.string (bs D))) s o6 I T f (.slice C H F) D:=S9.set rfl;have c5:(w9.setCell ⟨s+2,4,none⟩ (.string (bs D))).ownsRow (s+3) 9 1 (.slice C H F) k (cm z):=dJ O9 (show aL (s+2) w9 _ from (aL.refl _ _).setCell _) (by omega);obtain ⟨K,d5⟩:∃K:World,w9.setCell ⟨s+2,4,none⟩ (.string (bs D))=K:=⟨_,rfl⟩;rw [d5] at a9 c5;have d:=Lib.hid a9;have Y:=Lib.hid c5;have b8:=Lib.hid d5;have b2:=Lib.hid (ue (s+1) o6 K a9.fd);clear d6 S9 O9 a9 c5 d5 L e4 d9;go_wp2_with fail
    rw [b8.out];refine b2.out.mono ?_;rintro e J ⟨rfl,rfl⟩
    cases hq:decide (o6=some []) with
    | false=>
     have Z:Hid (bP l=none):=Lib.hid (by rw [S.out,a5.out,if_neg (by simpa using hq)];rfl);have r0:K.cell? ⟨s,0,none⟩=some (.int .i64 0):=(d.out.res.cell 0).1;have g0:=(d.out.res.cell 0).2;have r1:K.cell? ⟨s,1,none⟩=some (.int .i64 0):=(d.out.res.cell 1).1;have g1:=(d.out.res.cell 1).2;have r2:K.cell? ⟨s,2,none⟩=some (.string ⟨#[]⟩):=(d.out.res.cell 2).1;have g2:=(d.out.res.cell 2).2;have r3:K.cell? ⟨s,3,none⟩=some (.slice none 0 0):=(d.out.res.cell 3).1;have g3:=(d.out.res.cell 3).2;have r4:K.cell? ⟨s,4,none⟩=some (.string ⟨#[]⟩):=(d.out.res.cell 4).1;have g4:=(d.out.res.cell 4).2;have h5:=Lib.hid d.out.below;clear d Y b8 b2 k0 k1 k2 k3 c4 f4 S a5 hq;go_wp2_with fail
     refine bodyPost_ret (v:= .tuple #[.agg (aY lf (.slice none 0 0)),.bool false]) (by simp [results,Tryz.results114,go_sem,lf,aY,bs, *]) rfl ?_;refine ⟨.inl ⟨Z.out,rfl⟩,?_⟩;rw [U.out];exact ((((h5.out.setCell (Nat.le_refl _) _).setCell (Nat.le_refl _) _).setCell (Nat.le_refl _) _).setCell (Nat.le_refl _) _).setCell (Nat.le_refl _) _
    | true=>
     have d7:dQ ⟨I,T,f,z,D⟩:=⟨i4,i5,i8,by show z.length≤255;have:=e5.out;omega,fun x hx=>by have:=h8.out x hx;omega,by show D.length≤1048576;omega⟩
     have d1:(⟨I,T,f,z,D⟩:aX).tos.length=k:=e5.out;have b1:bg K (.slice C H F) (⟨I,T,f,z,D⟩:aX).tos.length 1 (cm (⟨I,T,f,z,D⟩:aX).tos):=by rw [d1];exact vF Y.out
     have g7:K.cell? ⟨0,0,none⟩=some (.int .i64 m):=(d.out.below.cell (by rw [←U.out];exact eI hm)).trans hm;have M:=Lib.hid (Bf ⟨I,T,f,z,D⟩ (.slice C H F) m K b1 d7 g7);have a7:Hid (bP l=if dr ⟨I,T,f,z,D⟩ then some ⟨I,T,f,z,D⟩ else none):=Lib.hid (by rw [S.out,a5.out,if_pos (by simpa using hq)];rfl);have q0:K.cell? ⟨s+2,0,none⟩=some (.int .i64 I):=(d.out.cellAt 0).1;have q1:K.cell? ⟨s+2,1,none⟩=some (.int .i64 T):=(d.out.cellAt 1).1;have q2:K.cell? ⟨s+2,2,none⟩=some (.string (bs f)):=(d.out.cellAt 2).1;have q3:K.cell? ⟨s+2,3,none⟩=some (.slice C H F):=(d.out.cellAt 3).1;have q4:K.cell? ⟨s+2,4,none⟩=some (.string (bs D)):=(d.out.cellAt 4).1;have i0:=Lib.hid d7;have h7:=Lib.hid d1;simp only [aY] at M;clear d7 d1 b1 g7 b8 b2 k0 k1 k2 k3 c4 f4 S a5 hq
     cases hM:dr ⟨I,T,f,z,D⟩ with
     | false=>
      have Z:Hid (bP l=none):=Lib.hid (by rw [a7.out,hM];rfl);rw [hM] at M;clear hM a7;go_wp2_with fail
      refine M.out.mono ?_;rintro e p ⟨rfl,G⟩;have b:=d.out.keep G;have r0:p.cell? ⟨s,0,none⟩=some (.int .i64 0):=(b.res.cell 0).1;have g0:=(b.res.cell 0).2;have r1:p.cell? ⟨s,1,none⟩=some (.int .i64 0):=(b.res.cell 1).1;have g1:=(b.res.cell 1).2;have r2:p.cell? ⟨s,2,none⟩=some (.string ⟨#[]⟩):=(b.res.cell 2).1;have g2:=(b.res.cell 2).2;have r3:p.cell? ⟨s,3,none⟩=some (.slice none 0 0):=(b.res.cell 3).1;have g3:=(b.res.cell 3).2;have r4:p.cell? ⟨s,4,none⟩=some (.string ⟨#[]⟩):=(b.res.cell 4).1;have g4:=(b.res.cell 4).2;have X:=Lib.hid b.below;clear b G d Y M q0 q1 q2 q3 q4;go_wp2_with fail
      refine bodyPost_ret (v:= .tuple #[.agg (aY lf (.slice none 0 0)),.bool false]) (by simp [results,Tryz.results114,go_sem,lf,aY,bs, *]) rfl ?_;refine ⟨.inl ⟨Z.out,rfl⟩,?_⟩;rw [U.out];exact ((((X.out.setCell (Nat.le_refl _) _).setCell (Nat.le_refl _) _).setCell (Nat.le_refl _) _).setCell (Nat.le_refl _) _).setCell (Nat.le_refl _) _
     | true=>
      have Z:Hid (bP l=some ⟨I,T,f,z,D⟩):=Lib.hid (by rw [a7.out,hM];rfl);rw [hM] at M;clear hM a7;go_wp2_with fail
      refine M.out.mono ?_;rintro e p ⟨rfl,G⟩;have b:=d.out.keep G;have f7:=dG (cJ.below (ts:=[]) G) (by simp) Y.out;have r0:p.cell? ⟨s,0,none⟩=some (.int .i64 0):=(b.res.cell 0).1;have g0:=(b.res.cell 0).2;have r1:p.cell? ⟨s,1,none⟩=some (.int .i64 0):=(b.res.cell 1).1;have g1:=(b.res.cell 1).2;have r2:p.cell? ⟨s,2,none⟩=some (.string ⟨#[]⟩):=(b.res.cell 2).1;have g2:=(b.res.cell 2).2;have r3:p.cell? ⟨s,3,none⟩=some (.slice none 0 0):=(b.res.cell 3).1;have g3:=(b.res.cell 3).2;have r4:p.cell? ⟨s,4,none⟩=some (.string ⟨#[]⟩):=(b.res.cell 4).1;have g4:=(b.res.cell 4).2;have p0:p.cell? ⟨s+2,0,none⟩=some (.int .i64 I):=(b.cellAt 0).1;have p1:p.cell? ⟨s+2,1,none⟩=some (.int .i64 T):=(b.cellAt 1).1;have p2:p.cell? ⟨s+2,2,none⟩=some (.string (bs f)):=(b.cellAt 2).1;have p3:p.cell? ⟨s+2,3,none⟩=some (.slice C H F):=(b.cellAt 3).1;have p4:p.cell? ⟨s+2,4,none⟩=some (.string (bs D)):=(b.cellAt 4).1;have X:=Lib.hid b.below;have d8:=Lib.hid f7;have k6:=Lib.hid b.res;clear b f7 G d Y M q0 q1 q2 q3 q4;go_wp2_with fail
      refine bodyPost_ret (v:= .tuple #[.agg (aY ⟨I,T,f,z,D⟩ (.slice C H F)),.bool true]) (by simp [results,Tryz.results114,go_sem,aY, *]) rfl ?_;refine ⟨.inr ⟨⟨I,T,f,z,D⟩,.slice C H F,Z.out,rfl,?_,i0.out⟩,?_⟩
      ·rw [U.out,h7.out];refine World.ownsRow.mono (base:=s+3) ?_ (by omega);have hS:∀(u:World) (j:Nat) (x:Value),u.ownsRow (s+3) 9 1 (.slice C H F) k (cm z)→(u.setCell ⟨s,j,none⟩ x).ownsRow (s+3) 9 1 (.slice C H F) k (cm z):=fun u j x h=>dJ h (show aL s u _ from (aL.refl _ _).setCell _) (by omega);exact hS _ _ _ (hS _ _ _ (hS _ _ _ (hS _ _ _ (hS _ _ _ d8.out))))
      ·rw [U.out];exact ((((X.out.setCell (Nat.le_refl _) _).setCell (Nat.le_refl _) _).setCell (Nat.le_refl _) _).setCell (Nat.le_refl _) _).setCell (Nat.le_refl _) _
 ·have S:Hid (bP l=none):=Lib.hid (by
   cases l with
   | nil=>rfl
   | cons c r=>
    have A:¬c=77:=fun e=>a0 (by rw [e];rfl);unfold bP;simp only
    rw [if_neg A])
  have m1:((bs (gK ((some l).bind (bm 1)))).toList == [77])=false:=by
   rw [qM]
   cases l with
   | nil=>rfl
   | cons c r=>
    have A:¬c=77:=fun e=>a0 (by rw [e];rfl);show ([c] == [77])=false;simpa using A
  obtain ⟨t,et⟩:∃t,gK ((some l).bind (bm 1))=t:=⟨_,rfl⟩;rw [et] at m1 R;clear a0 et;go_enter Tryz.func114,Tryz.ntmps114;go_wp2_with fail
  rw [b7.out];refine R.out.mono ?_;rintro e W ⟨rfl,B,y⟩;have O:=a6.out.same y (by omega);have k0:W.cell? ⟨s,0,none⟩=some (.int .i64 0):=(O.cell 0).1;have k1:W.cell? ⟨s,1,none⟩=some (.int .i64 0):=(O.cell 1).1;have k2:W.cell? ⟨s,2,none⟩=some (.string ⟨#[]⟩):=(O.cell 2).1;have k3:W.cell? ⟨s,3,none⟩=some (.slice none 0 0):=(O.cell 3).1;have k4:W.cell? ⟨s,4,none⟩=some (.string ⟨#[]⟩):=(O.cell 4).1;have f0:=(O.cell 0).2;have f1:=(O.cell 1).2;have f2:=(O.cell 2).2;have f3:=(O.cell 3).2;have f4:=(O.cell 4).2;have h4:=Lib.hid (a4.out.trans (y.below (by omega)));clear B y O R a6 a4;go_wp2_with fail
  refine bodyPost_ret (v:= .tuple #[.agg (aY lf (.slice none 0 0)),.bool false]) (by simp [results,Tryz.results114,go_sem,lf,aY,bs, *]) rfl ?_;refine ⟨.inl ⟨S.out,rfl⟩,?_⟩;rw [U.out];exact ((((h4.out.setCell (Nat.le_refl _) _).setCell (Nat.le_refl _) _).setCell (Nat.le_refl _) _).setCell (Nat.le_refl _) _).setCell (Nat.le_refl _) _
def oe (w:World) (q:Nat) (I:Nat) (v:Value):Prop:=w.heap[q]? =some (.cells #[.int .i64 I,v] 193 (0,0))
theorem oe.cell {w:World} {q I:Nat} {v:Value} (h:oe w q I v) (j:Nat):w.cell? ⟨q,j,none⟩=(#[.int .i64 I,v]:Array Value)[j]? ∧w.frozen? ⟨q,j,none⟩=false:=
 ⟨Lib.cell_of_heap h j,Lib.frozen_of_heap h j⟩
def jv (o:Option (List UInt8)):Option (Nat×List Nat):=o.bind dq
def zO (b:Nat) (o:Option (List UInt8)) (w:World) (e:Ending) (w':World):Prop:=
 (jv o=none∧e= .returned (.tuple #[.agg #[.int .i64 0,.slice none 0 0],.bool false])∨∃id ps v,jv o=some (id,ps)∧e= .returned (.tuple #[.agg #[.int .i64 (id:Nat),v],.bool true])∧w'.ownsRow w.heap.size 3 1 v ps.length (aZ ps)∧id≤4294967295∧1≤ps.length∧ps.length≤255∧∀x∈ps,x≤255)∧sc b w w'
theorem wQ (o:Option (List UInt8)) {g i e:Option (List UInt8)} {I N:Nat} {a:List Nat} (b:gj 4 o=(I,g)) (c:gj 1 g=(N,i)) (f:iM N i=(a,e)):jv o=if e=some []∧1≤a.length∧bF a=true then some (I,a) else none:=by
 cases o with
 | none=>
  rw [kh] at b;injection b with _ b;subst b;rw [kh] at c;injection c with _ c;subst c;have:=l7 N;rw [f] at this;simp only at this;rw [if_neg (by rw [this];rintro ⟨h,_⟩;cases h)];rfl
 | some r=>
  show dq r=_;unfold dq;rw [C4 r b c f]
  by_cases h:e=some []
  ·rw [if_pos h,sb]
   by_cases d:1≤a.length∧bF a=true
   ·rw [if_pos (by simp only [Bool.and_eq_true,decide_eq_true_eq];exact d),if_pos ⟨h,d⟩]
   ·rw [if_neg (by simp only [Bool.and_eq_true,decide_eq_true_eq];exact d),if_neg (fun k=>d k.2)]
  ·rw [if_neg h,if_neg (fun k=>h k.1)];rfl
theorem sc.drewN {b:Nat} {w c:World} (h:sc b w c) (n:Nat):sc b w (c.drewN n):=
 ⟨by simpa using h.size,fun k d a=>by simpa using h.block k d a,h.still.trans (kV n c)⟩
theorem sc.setNew {b p:Nat} {w c:World} (h:sc b w c) (e:w.heap.size≤p) {j:Nat} (v:Value):sc b w (c.setCell ⟨p,j,none⟩ v):=
 ⟨by simpa using h.size,fun k d a=>(heap_setCell_other c ⟨p,j,none⟩ k v (by show k≠p;omega)).trans (h.block k d a),h.still.trans ⟨rfl,rfl,rfl⟩⟩
structure LS (w wk:World) (s b:Nat) (o:Option (List UInt8)) (I:Nat) (v:Value):Prop where
 fd:gG wk b o
 res:oe wk s 0 (.slice none 0 0)
 lv:oe wk (s+1) I v
 but:sc b w wk
 size:s+2≤wk.heap.size
theorem LS.fdStep {w e a:World} {s b I:Nat} {o d:Option (List UInt8)} {v:Value} (h:LS w e s b o I v) (i:b < s) (c:aL b e a) (f:gG a b d):LS w a s b d I v:=
 ⟨f,(c.2 s (by omega)).trans h.res,(c.2 (s+1) (by omega)).trans h.lv,h.but.trans ⟨by rw [c.1];exact Nat.le_refl _,fun k _ g=>c.2 k g,c.3⟩,by rw [c.1];exact h.size⟩
theorem LS.keep {w e c:World} {s b I:Nat} {o:Option (List UInt8)} {v:Value} (h:LS w e s b o I v) (f:b < s) (a:Below e.heap.size e c):LS w c s b o I v:=by
 have g:=h.size;exact ⟨h.fd.blk (a.block b (by omega)),(a.block s (by omega)).trans h.res,(a.block (s+1) (by omega)).trans h.lv,h.but.trans ⟨a.size,fun k d _=>a.block k d,dU.of_below a⟩,Nat.le_trans h.size a.size⟩
theorem LS.set {w c:World} {s b I I' j:Nat} {o:Option (List UInt8)} {v v' u:Value} (h:LS w c s b o I v) (i:w.heap.size≤s+1) (g:b < s) (e:(#[.int .i64 I,v]:Array Value).setIfInBounds j u=#[.int .i64 I',v']):LS w (c.setCell ⟨s+1,j,none⟩ u) s b o I' v':=by
 have a:aL (s+1) c (c.setCell ⟨s+1,j,none⟩ u):=(aL.refl _ _).setCell _;refine ⟨h.fd.same a (by omega),(a.2 s (by omega)).trans h.res,?_,⟨by rw [a.1];exact h.but.size,fun k f d=>(a.2 k (by omega)).trans (h.but.block k f d),h.but.still.trans a.3⟩,by rw [a.1];exact h.size⟩
 have:=heap_setCell_same c (s+1) j _ _ u h.lv;unfold oe;rw [this,e]
theorem LS.ofGrown {w g p l:World} {s b I n:Nat} {o:Option (List UInt8)} {v:Value} {t:List Value} (h:LS w g s b o I v) (x:w.heap.size≤s) (u:b < s) (q:g.ownsRow (s+2) 3 1 v n t) (d:Below g.heap.size g p) (c:p.grownBy l v.ownBlock):LS w l s b o I v:=by
 have y:=h.size;have f:∀j,v.ownBlock=some j→s+2≤j:=fun j r=>(q.lt j r).1
 have a:∀k,k < s+2→l.heap[k]? =g.heap[k]? :=fun k m=>by
  rw [c.block k (by have:=d.size;omega) (fun e=>by have:=f k e.symm;omega),d.block k (by omega)]
 exact ⟨h.fd.blk (a _ (by omega)),(a s (by omega)).trans h.res,(a (s+1) (by omega)).trans h.lv,⟨by have:=d.size;have:=c.size;have:=h.but.size;omega,fun k m i=>(a k (by omega)).trans (h.but.block k m i),h.but.still.trans ((dU.of_below d).trans ⟨c.os,c.tape,c.output⟩)⟩,by have:=d.size;have:=c.size;omega⟩
theorem rH (b:Nat) (o:Option (List UInt8)) (w:World) (h:gG w b o) (R:b < w.heap.size):
  Calls Tryz.prog 167 #[.pointer (some ⟨b,0,none⟩)] w (zO b o w):=by
 obtain ⟨s,hs⟩:∃s,w.heap.size=s:=⟨_,rfl⟩;rw [hs] at R;have HH:=Lib.hid h;have d:=Lib.hid hs;clear h;go_enter Tryz.func167,Tryz.ntmps167;go_wp2_with fail
 obtain ⟨X,z⟩:∃X:World,(w.alloc (.cells #[.int .i64 0,.slice none 0 0] 193)).alloc (.cells #[.int .i64 0,.slice none 0 0] 193)=X:=⟨_,rfl⟩
 have S0:LS w X s b o 0 (.slice none 0 0):=by
  have P:Below w.heap.size w X:=by rw [←z];exact ((Below.refl _ _).alloc (Nat.le_refl _) _).alloc (by simp) _
  refine ⟨HH.out.blk (P.block b (by omega)),?_,?_,⟨P.size,fun k hk _=>P.block k hk,dU.of_below P⟩,by rw [←z];simp;omega⟩
  ·unfold oe;rw [←z,←hs,((Below.refl (w.alloc (.cells #[.int .i64 0,.slice none 0 0] 193)).heap.size _).alloc (Nat.le_refl _) _).block w.heap.size (by simp)];exact heap_alloc_new w _
  ·unfold oe;rw [←z,←hs];have:=heap_alloc_new (w.alloc (.cells #[.int .i64 0,.slice none 0 0] 193)) (.cells #[.int .i64 0,.slice none 0 0] 193);simpa using this
 have U:=Lib.hid S0;rw [z];obtain ⟨I,T,hI⟩:∃I T,gj 4 o=(I,T):=⟨_,_,rfl⟩;have b5:I≤4294967295:=by have:=lZ 4 o;rw [hI] at this;simp at this;omega
 have J:Calls Tryz.prog 111 #[.pointer (some ⟨b,0,none⟩),.int .i64 4] X fun e m=>e= .returned (.int .i64 (gj 4 o).1)∧gG m b (gj 4 o).2∧aL b X m:=dZ b 4 o X U.out.fd (by decide);rw [hI] at J;have HI:=Lib.hid hI;clear hI S0 z;refine J.mono ?_;rintro e w3 ⟨rfl,Q,O⟩;have S3:=U.out.fdStep R O Q;obtain ⟨c0,f0⟩:=S3.lv.cell 0;have W:LS w (w3.setCell ⟨s+1,0,none⟩ (.int .i64 I)) s b T I (.slice none 0 0):=S3.set (by omega) R rfl;obtain ⟨W3,Y⟩:∃W3:World,w3.setCell ⟨s+1,0,none⟩ (.int .i64 I)=W3:=⟨_,rfl⟩;rw [Y] at W;have V:=Lib.hid W;have a2:=Lib.hid Y;clear Q O S3 W Y J U HH;obtain ⟨N,Z,hN⟩:∃N Z,gj 1 T=(N,Z):=⟨_,_,rfl⟩;have d4:N≤255:=by have:=lZ 1 T;rw [hN] at this;simp at this;omega
 have J:Calls Tryz.prog 111 #[.pointer (some ⟨b,0,none⟩),.int .i64 1] W3 fun e m=>e= .returned (.int .i64 (gj 1 T).1)∧gG m b (gj 1 T).2∧aL b W3 m:=dZ b 1 T W3 V.out.fd (by decide);rw [hN] at J;have HC:=Lib.hid J;have HN:=Lib.hid hN;clear J hN;go_wp2_with fail
 rw [a2.out];refine HC.out.mono ?_;rintro e w7 ⟨rfl,Q,O⟩;have a1:=Lib.hid (V.out.fdStep R O Q);clear Q O HC V a2 c0 f0;go_wp2_with fail
 obtain ⟨ii,b8,a6,a7,a8⟩:=info_parts E7;go_loopw [10] (fun i m=>∃(k:Nat) (v:Value) (f:List Nat) (p:Option (List UInt8)),k≤N∧i= .int .i64 k∧Hid (iM k Z=(f,p))∧Hid (LS w m s b p I v)∧Hid (m.ownsRow (s+2) 3 1 v k (aZ f))) (fun i _=>N - (intOf i).toNat)
 case atStart=>exact ⟨0,_,[],Z,Nat.zero_le _,rfl,Lib.hid rfl,a1,Lib.hid (World.ownsRow_nil _ _ _ _)⟩
 case round=>
  clear a1;obtain ⟨k,v,f,p,hk,rfl,L,H,HO⟩:=hrel;have a3:f.length=k:=by have:=xW k Z;rw [L.out] at this;exact this
  have B:=Lib.hid a3
  obtain ⟨r,y,rfl⟩:∃a c,v= .slice a k c:=by
   rcases HO.out.2 with ⟨e,h0⟩ | ⟨g,d2,d3,e,_⟩
   ·exact ⟨_,_,by rw [h0];exact e⟩
   ·exact ⟨_,_,e⟩
  clear a3
  by_cases d5:k < N
  ·have c7:(k:Int) < (N:Int):=by omega
   obtain ⟨x,p',hx⟩:∃x p',gj 1 p=(x,p'):=⟨_,_,rfl⟩;have a9:Hid (iM (k+1) Z=(f++[x],p')):=Lib.hid (by rw [iM,L.out];simp only [hx])
   have b1:Hid (∀m,gG m b p→Calls Tryz.prog 111 #[.pointer (some ⟨b,0,none⟩),.int .i64 1] m fun e F=>e= .returned (.int .i64 (x:Int))∧gG F b p'∧aL b m F):=Lib.hid (fun m h'=>by
    have J:Calls Tryz.prog 111 #[.pointer (some ⟨b,0,none⟩),.int .i64 1] m fun e F=>e= .returned (.int .i64 (gj 1 p).1)∧gG F b (gj 1 p).2∧aL b m F:=dZ b 1 p m h' (by decide);rw [hx] at J
    exact J)
   have Sd:Hid (LS w wr.drew s b p I (.slice r k y)):=Lib.hid (H.out.keep R ((Below.refl _ _).drew));have Od:Hid (wr.drew.ownsRow (s+2) 3 1 (.slice r k y) k (aZ f)):=Lib.hid HO.out.drew;have c3:wr.drew.cell? ⟨s+1,1,none⟩=some (.slice r k y):=(Sd.out.lv.cell 1).1;clear hx;go_wp2_with fail
   go_region_law (first
    | (refine step_append_lies _ (by rfl) _ _ _ (by rfl) (s+2) 3 ii _ 1 8 Tryz.underlying28 b8 a6 a7 a8 rfl (by decide) (.slice r k y) k (aZ f) (by rfl) (O9.out.alloc _) ⟨w9.heap.size,0,none⟩ 1 1 [.int .i64 (x:Int)] (by rfl) (by rfl) (World.news_of_block (cs:=#[.int .i64 (x:Int)]) (t:=3) (fr:=(0,0)) (heap_alloc_new w9 _)) (by simp [Value.oneCell']) (by decide) (by unfold maxLen;omega) (by omega) (by simp;omega) (w9.heap.size+1) (by simp) ?_;intro ga C G S D b6 c2;have M:=Lib.hid (S9.out.ofGrown (by rw [d.out];exact Nat.le_refl _) R O9.out ((Below.refl _ _).alloc (Nat.le_refl _) _) D);have c5:G.cell? ⟨s+1,1,none⟩=some (.slice r k y):=(M.out.lv.cell 1).1;have b4:=(M.out.lv.cell 1).2;have a0:=Lib.hid S;clear S D b6)
    | (go_simp;go_at_call 111;refine (b1.out _ Sd.out.fd).mono ?_;rintro e w9 ⟨rfl,Q,O⟩;have S9:=Lib.hid (Sd.out.fdStep R O Q);have O9:=Lib.hid (dJ Od.out O (by omega));have c9:w9.cell? ⟨s+1,1,none⟩=some (.slice r k y):=(S9.out.lv.cell 1).1;have z9:=S9.out.size;have c8:∀o:Obj,(w9.alloc o).cell? ⟨s+1,1,none⟩=some (.slice r k y):=(fun o=>(((Below.refl w9.heap.size w9).alloc (Nat.le_refl _) o).cell (eI c9)).trans c9);clear Q O;dsimp only))
   all_goals
    have b3:=Lib.hid (M.out.set (j:=1) (u:= .slice (some ⟨ga,0,none⟩) (k+1) C) (I':=I) (v':= .slice (some ⟨ga,0,none⟩) (k+1) C) (by rw [d.out];omega) R rfl);have b2:=Lib.hid (dJ a0.out (show aL (s+1) G (G.setCell ⟨s+1,1,none⟩ (.slice (some ⟨ga,0,none⟩) (k+1) C)) from (aL.refl _ _).setCell _) (by omega));clear c5 b4 a0 M;go_wp2_with fail
    exact ⟨⟨k+1,_,f++[x],p',by omega,by go_num,a9,b3,Lib.hid (by rw [wV];exact b2.out)⟩,by simp [intOf];omega⟩
  ·have c1:k=N:=by omega
   subst c1;have l:Hid (jv o=if p=some []∧1≤f.length∧bF f=true then some (I,f) else none):=Lib.hid (wQ o HI.out HN.out L.out);have a4:∀x∈f,x < 256:=by have:=Bp k Z;rw [L.out] at this;exact this
   have b0:=Lib.hid a4;have A:=Lib.hid (ue b p wr H.out.fd);have d0:wr.cell? ⟨s+1,0,none⟩=some (.int .i64 I):=(H.out.lv.cell 0).1;have d1:wr.cell? ⟨s+1,1,none⟩=some (.slice r k y):=(H.out.lv.cell 1).1;have r0:wr.cell? ⟨s,0,none⟩=some (.int .i64 0):=(H.out.res.cell 0).1;have g0:=(H.out.res.cell 0).2;have r1:wr.cell? ⟨s,1,none⟩=some (.slice none 0 0):=(H.out.res.cell 1).1;have g1:=(H.out.res.cell 1).2;have HB:=Lib.hid H.out.but;have HX:=Lib.hid H.out.lv;clear a4;go_wp2_with fail
   refine A.out.mono ?_;rintro e d6 ⟨rfl,rfl⟩
   cases hq:decide (p=some []) with
   | false=>
    have q:Hid (jv o=none):=Lib.hid (by rw [l.out,if_neg (by rintro ⟨h,_⟩;simp [h] at hq)]);clear l hq A;go_wp2_with fail
    refine bodyPost_ret (v:= .tuple #[.agg #[.int .i64 0,.slice none 0 0],.bool false]) (by simp [results,Tryz.results167,go_sem, *]) rfl ?_;exact ⟨.inl ⟨q.out,rfl⟩,(HB.out.setNew (by rw [d.out];exact Nat.le_refl _) _).setNew (by rw [d.out];exact Nat.le_refl _) _⟩
   | true=>
    by_cases a5:k=0
    ·have q:Hid (jv o=none):=Lib.hid (by rw [l.out,if_neg (by rintro ⟨_,h,_⟩;have:=B.out;omega)]);have b7:((k:Int) == 0)=true:=by rw [a5];rfl
     clear l hq A;go_wp2_with fail
     refine bodyPost_ret (v:= .tuple #[.agg #[.int .i64 0,.slice none 0 0],.bool false]) (by simp [results,Tryz.results167,go_sem, *]) rfl ?_;exact ⟨.inl ⟨q.out,rfl⟩,(HB.out.setNew (by rw [d.out];exact Nat.le_refl _) _).setNew (by rw [d.out];exact Nat.le_refl _) _⟩
    ·have b7:((k:Int) == 0)=false:=by rw [beq_eq_false_iff_ne];omega
     have E:bg wr (.slice r k y) f.length 1 (aZ f):=by rw [B.out];exact vF HO.out
     have K:=Lib.hid (zh (.slice r k y) f wr E (by have:=B.out;omega));have c6:¬k=0:=a5
     cases hR:bF f with
     | false=>
      have q:Hid (jv o=none):=Lib.hid (by rw [l.out,if_neg (by rintro ⟨_,_,h⟩;rw [hR] at h;cases h)]);rw [hR] at K;clear l hq A hR E;go_wp2_with fail
      refine K.out.mono ?_;rintro e G ⟨rfl,n,rfl⟩;go_wp2_with fail
      refine bodyPost_ret (v:= .tuple #[.agg #[.int .i64 0,.slice none 0 0],.bool false]) (by simp [results,Tryz.results167,go_sem, *]) rfl ?_;exact ⟨.inl ⟨q.out,rfl⟩,((HB.out.drewN n).setNew (by rw [d.out];exact Nat.le_refl _) _).setNew (by rw [d.out];exact Nat.le_refl _) _⟩
     | true=>
      have q:Hid (jv o=some (I,f)):=Lib.hid (by rw [l.out,if_pos ⟨by simpa using hq,by have:=B.out;omega,hR⟩]);rw [hR] at K;clear l hq A hR E;go_wp2_with fail
      refine K.out.mono ?_;rintro e G ⟨rfl,n,rfl⟩;go_wp2_with fail
      refine bodyPost_ret (v:= .tuple #[.agg #[.int .i64 I,.slice r k y],.bool true]) (by simp [results,Tryz.results167,go_sem, *]) rfl ?_;have c4:=B.out;refine ⟨.inr ⟨I,f,.slice r k y,q.out,rfl,?_,b5,by omega,by omega,fun x hx=>by have:=b0.out x hx;omega⟩,((HB.out.drewN n).setNew (by rw [d.out];exact Nat.le_refl _) _).setNew (by rw [d.out];exact Nat.le_refl _) _⟩
      rw [d.out,c4];refine World.ownsRow.mono (base:=s+2) ?_ (by omega);have hS:∀(u:World) (j:Nat) (x:Value),u.ownsRow (s+2) 3 1 (.slice r k y) k (aZ f)→(u.setCell ⟨s,j,none⟩ x).ownsRow (s+2) 3 1 (.slice r k y) k (aZ f):=fun u j x h=>dJ h (show aL s u _ from (aL.refl _ _).setCell _) (by omega);exact hS _ _ _ (hS _ _ _ (dG ((cJ.refl [] wr).drewN n) (by simp) HO.out))
def Ka (w w':World) (id:Nat) (ps:List Nat) (v:Value):Prop:=w'.ownsRow w.heap.size 3 1 v ps.length (aZ ps)∧id≤4294967295∧1≤ps.length∧ps.length≤255∧∀x∈ps,x≤255
def yv (l:List UInt8) (w:World) (e:Ending) (w':World):Prop:=
 (dh l=none∧e= .returned (.tuple #[.agg #[.int .i64 0,.slice none 0 0],.bool false])∨∃id ps v,dh l=some (id,ps)∧e= .returned (.tuple #[.agg #[.int .i64 (id:Nat),v],.bool true])∧Ka w w' id ps v)∧Below w.heap.size w w'
def tz (l:List UInt8) (w:World) (e:Ending) (w':World):Prop:=
 (bS l=none∧e= .returned (.tuple #[.int .i64 0,.agg #[.int .i64 0,.slice none 0 0],.bool false])∨∃T id ps v,bS l=some (T,id,ps)∧e= .returned (.tuple #[.int .i64 (T:Nat),.agg #[.int .i64 (id:Nat),v],.bool true])∧Ka w w' id ps v∧T≤1000000000)∧Below w.heap.size w w'
theorem yn {w b:World} {s:Nat} {l:List UInt8} (c:w.heap.size=s) (d:l.length≤536870912) (a:(w.alloc (.cells #[.int .i64 0,.slice none 0 0] 193)).alloc (.cells #[.string (bs l),.bool false] 187)=b):
  gG b (s+1) (some l)∧oe b s 0 (.slice none 0 0)∧Below s w b∧b.heap.size=s+2:=by
 refine ⟨⟨by rw [←a,←c];have:=heap_alloc_new (w.alloc (.cells #[.int .i64 0,.slice none 0 0] 193)) (.cells #[.string (bs l),.bool false] 187);simpa using this,by unfold maxLen;omega⟩,?_,?_,?_⟩
 ·unfold oe;rw [←a,←c,((Below.refl (w.alloc (.cells #[.int .i64 0,.slice none 0 0] 193)).heap.size _).alloc (Nat.le_refl _) _).block w.heap.size (by simp)];exact heap_alloc_new w _
 ·rw [←a];exact ((Below.refl _ _).alloc (by omega) _).alloc (by simp;omega) _
 ·rw [←a,←c];simp
theorem nX {s k j n:Nat} {u:World} {v x:Value} {a:List Value} (h:u.ownsRow (s+2) 3 1 v n a) (b:k < s+2):(u.setCell ⟨k,j,none⟩ x).ownsRow (s+2) 3 1 v n a:=dJ h (show aL k u _ from (aL.refl _ _).setCell _) b
theorem ma (l:List UInt8) (w:World) (hl:l.length≤536870912):Calls Tryz.prog 116 #[.string (bs l)] w (yv l w):=by
 have sl:=aG l;obtain ⟨s,hs⟩:∃s,w.heap.size=s:=⟨_,rfl⟩;obtain ⟨M,z⟩:∃M:World,(w.alloc (.cells #[.int .i64 0,.slice none 0 0] 193)).alloc (.cells #[.string (bs l),.bool false] 187)=M:=⟨_,rfl⟩;obtain ⟨Q,T,O,U⟩:=yn hs hl z;have j:=iY (s+1) 1 (some l) M Q (by decide);have x:=Lib.hid z;have n:=Lib.hid hs;have m:=Lib.hid T;have k:=Lib.hid O;have E:=Lib.hid U;clear z Q T O U
 by_cases f:l.take 1=[71]
 ·obtain ⟨r,Z⟩:∃r,l.drop 1=r:=⟨_,rfl⟩;have S:Hid (l=71::r):=Lib.hid (by rw [←List.take_append_drop 1 l,f,Z];rfl);have W:(some l).bind (bm 1)=some ([71],r):=by show bm 1 l=_;rw [S.out];rfl
  have b:Hid (dh l=dq r):=Lib.hid (by rw [S.out];unfold dh;simp only;rw [if_pos trivial]);rw [W] at j;have m1:((bs (gK (some ([71],r)))).toList == [71])=true:=by show ((bs [71]).toList == [71])=true;rw [qM];rfl
  have d:=Lib.hid j;clear j W Z f;go_enter Tryz.func116,Tryz.ntmps116;go_wp2_with fail
  rw [x.out];refine d.out.mono ?_;rintro e p ⟨rfl,B,i⟩;have R:gG p (s+1) (some r):=B;have o:oe p s 0 (.slice none 0 0):=(i.2 s (by omega)).trans m.out;have P:=k.out.trans (i.below (by omega));have V:p.heap.size=s+2:=i.1.trans E.out;have D:=Lib.hid (rH (s+1) (some r) p R (by omega));have L:=Lib.hid o;have q:=Lib.hid P;have y:=Lib.hid V;clear B i R o P V d m k E x;go_wp2_with fail
  refine D.out.mono ?_;rintro e K ⟨A,h⟩;have F:oe K s 0 (.slice none 0 0):=(h.block s (by have:=y.out;omega) (by omega)).trans L.out;have r0:K.cell? ⟨s,0,none⟩=some (.int .i64 0):=(F.cell 0).1;have g0:=(F.cell 0).2;have r1:K.cell? ⟨s,1,none⟩=some (.slice none 0 0):=(F.cell 1).1;have g1:=(F.cell 1).2;have C:Hid (Below s w K):=Lib.hid (q.out.trans (h.below (by omega) (by have:=y.out;omega)));clear h F D
  rcases A with ⟨G,rfl⟩ | ⟨N,H,v,G,rfl,J,B,i,h3,Y⟩
  ·have u:Hid (dh l=none):=Lib.hid (by rw [b.out];exact G);clear G b;go_wp2_with fail
   refine bodyPost_ret (v:= .tuple #[.agg #[.int .i64 0,.slice none 0 0],.bool false]) (by simp [results,Tryz.results116,go_sem, *]) rfl ?_;refine ⟨.inl ⟨u.out,rfl⟩,?_⟩;rw [n.out];exact (C.out.setCell (Nat.le_refl _) _).setCell (Nat.le_refl _) _
  ·have u:Hid (dh l=some (N,H)):=Lib.hid (by rw [b.out];exact G);rw [y.out] at J;have HO:=Lib.hid J;have H4:=Lib.hid Y
   obtain ⟨a,I,rfl⟩:∃a I,v= .slice a H.length I:=by
    rcases J.2 with ⟨e,h0⟩ | ⟨g,a0,a1,e,_⟩
    ·exact ⟨_,_,by rw [h0];exact e⟩
    ·exact ⟨_,_,e⟩
   clear G b J Y;go_wp2_with fail
   refine bodyPost_ret (v:= .tuple #[.agg #[.int .i64 N,.slice a H.length I],.bool true]) (by simp [results,Tryz.results116,go_sem, *]) rfl ?_;refine ⟨.inr ⟨N,H,.slice a H.length I,u.out,rfl,?_,B,i,h3,H4.out⟩,?_⟩
   ·rw [n.out];exact (nX (nX HO.out (by omega)) (by omega)).mono (by omega)
   ·rw [n.out];exact (C.out.setCell (Nat.le_refl _) _).setCell (Nat.le_refl _) _
 ·have b:Hid (dh l=none):=Lib.hid (by
   cases l with
   | nil=>rfl
   | cons c r=>
    have j:¬c=71:=fun e=>f (by rw [e];rfl);unfold dh;simp only
    rw [if_neg j])
  have m1:((bs (gK ((some l).bind (bm 1)))).toList == [71])=false:=by
   rw [qM]
   cases l with
   | nil=>rfl
   | cons c r=>
    have j:¬c=71:=fun e=>f (by rw [e];rfl);show ([c] == [71])=false;simpa using j
  obtain ⟨t,X⟩:∃t,gK ((some l).bind (bm 1))=t:=⟨_,rfl⟩;rw [X] at m1 j;have d:=Lib.hid j;clear f X j;go_enter Tryz.func116,Tryz.ntmps116;go_wp2_with fail
  rw [x.out];refine d.out.mono ?_;rintro e p ⟨rfl,B,i⟩;have o:oe p s 0 (.slice none 0 0):=(i.2 s (by omega)).trans m.out;have r0:p.cell? ⟨s,0,none⟩=some (.int .i64 0):=(o.cell 0).1;have g0:=(o.cell 0).2;have r1:p.cell? ⟨s,1,none⟩=some (.slice none 0 0):=(o.cell 1).1;have g1:=(o.cell 1).2;have q:=Lib.hid (k.out.trans (i.below (by omega)));clear B i o d m k;go_wp2_with fail
  refine bodyPost_ret (v:= .tuple #[.agg #[.int .i64 0,.slice none 0 0],.bool false]) (by simp [results,Tryz.results116,go_sem, *]) rfl ?_;refine ⟨.inl ⟨b.out,rfl⟩,?_⟩;rw [n.out];exact (q.out.setCell (Nat.le_refl _) _).setCell (Nat.le_refl _) _
end Go.Proofs.YtofpegbpgkkgkaaGreatDoor
