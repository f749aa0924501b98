import Derived.Test.YtofpegbpgkkgkaaGreatDoorS12
import Derived.Maps.RangeRun
namespace Go.Proofs.YtofpegbpgkkgkaaGreatDoor
set_option maxHeartbeats 8000000
set_option maxRecDepth 1000000
open Go.RowKit
theorem fq (s:ByteArray):s.data.toList.length=s.size:=by simp
def iV (l:List UInt8) (k:Nat):Bool:=l[k]? == some 13 && l[k+1]? == some 10
def gA (l:List UInt8):List UInt8×List UInt8:=
 match (List.range l.length).find? (iV l) with
 | some k=>(l.take k,l.drop (k+2))
 | none=>(l,[])
theorem Et {l:List UInt8} {k:Nat} (h:iV l k=true) (c:∀j,j < k→iV l j=false):gA l=(l.take k,l.drop (k+2)):=by
 have b:k < l.length:=by
  unfold iV at h;rw [Bool.and_eq_true] at h
  by_cases e:k < l.length
  ·exact e
  ·rw [List.getElem?_eq_none (by omega)] at h
   cases h.1
 unfold gA;rw [List.find?_range_eq_some.2 ⟨h,List.mem_range.2 b,fun j a=>by rw [c j a];rfl⟩]
theorem Eu {l:List UInt8} (a:∀j,iV l j=false):gA l=(l,[]):=by
 unfold gA;rw [List.find?_range_eq_none.2 fun j _=>by rw [a j];rfl]
theorem E8 {s:ByteArray} {k:Nat} (d:k < s.size) (e:k+1 < s.size) (a:(((s[k]).toNat:Int) == 13)=true) (c:(((s[k+1]).toNat:Int) == 10)=true):iV s.data.toList k=true:=by
 unfold iV;rw [me s k d,me s (k+1) e,wS (b:=13) rfl a,wS (b:=10) rfl c];rfl
theorem E6 {s:ByteArray} {k:Nat} (c:k < s.size) (a:(((s[k]).toNat:Int) == 13)=false):iV s.data.toList k=false:=by
 unfold iV;rw [me s k c,Bool.and_eq_false_iff]
 left
 have:=wT (b:=13) rfl a;simpa using this
theorem E7 {s:ByteArray} {k:Nat} (c:k+1 < s.size) (a:(((s[k+1]).toNat:Int) == 10)=false):iV s.data.toList k=false:=by
 unfold iV;rw [me s (k+1) c,Bool.and_eq_false_iff]
 right
 have:=wT (b:=10) rfl a;simpa using this
theorem E5 {s:ByteArray} {k:Nat} (h:¬k+1 < s.size):iV s.data.toList k=false:=by
 unfold iV;rw [Bool.and_eq_false_iff]
 right
 rw [List.getElem?_eq_none (by rw [fq];omega)];rfl
def oB (l:List UInt8) (w:World) (e:Ending) (w':World):Prop:=
 e= .returned (.tuple #[.string ⟨(gA l).1.toArray⟩,.string ⟨(gA l).2.toArray⟩])∧∃n,w'=w.drewN n
theorem oB.mk {l:List UInt8} {w:World} {e:Ending} {a:World} (x y:ByteArray) (c:e= .returned (.tuple #[.string x,.string y])) (b:gA l=(x.data.toList,y.data.toList)) (n:Nat) (d:a=w.drewN n):oB l w e a:=by
 refine ⟨?_,n,d⟩;rw [b,c]
theorem uF (s:ByteArray) (w:World) (n:s.size≤4294967296):
  Calls Tryz.prog 15 #[.string s] w (oB s.data.toList w):=by
 go_enter Tryz.func15,Tryz.ntmps15;go_wp2_with fail
 go_loop [4] (fun i=>∃k:Nat,k≤s.size∧i= .int .i64 k∧Hid (∀j:Nat,j < k→iV s.data.toList j=false)) (fun i=>s.size - (intOf i).toNat)
 case atStart=>exact ⟨0,Nat.zero_le _,rfl,fun j l=>by omega⟩
 case round=>
  obtain ⟨k,m,rfl,f⟩:=hrel;have o:IntKind.i64.wrap ((k:Int)+1)=(k:Int)+1:=by rw [IntKind.wrap_i64];omega
  by_cases c:k+1 < s.size
  ·have a:k < s.size:=by omega
   have d:(k:Int)+1 < (s.size:Int):=by omega
   by_cases g:(((s[k]).toNat:Int) == 13)=true
   ·by_cases h:(((s[k+1]).toNat:Int) == 10)=true
    ·have b:=Lib.hid (E8 a c g h);go_wp2_with fail
     go_region
     go_wp2_with fail
     go_ret2
     refine oB.mk _ _ rfl ?_ 1 rfl;rw [Et b.out f.out,Lib.extract_data,Lib.extract_to_end];rfl
    ·have h:=Bool.eq_false_iff.2 h;have b:=Lib.hid (E7 c h);go_wp2_with fail
     exact ⟨⟨k+1,by omega,by go_num,Lib.hid fun j l=>by
      by_cases e:j < k
      ·exact f.out j e
      ·obtain rfl:j=k:=by omega
       exact b.out⟩,by simp [intOf];omega⟩
   ·have g:=Bool.eq_false_iff.2 g;have b:=Lib.hid (E6 a g);go_wp2_with fail
    exact ⟨⟨k+1,by omega,by go_num,Lib.hid fun j l=>by
     by_cases e:j < k
     ·exact f.out j e
     ·obtain rfl:j=k:=by omega
      exact b.out⟩,by simp [intOf];omega⟩
  ·have d:¬(k:Int)+1 < (s.size:Int):=by omega
   go_wp2_with fail
   go_ret2
   refine oB.mk s ⟨#[]⟩ rfl (Eu fun j=>?_) 0 rfl
   by_cases l:j < k
   ·exact f.out j l
   ·exact E5 (by omega)
def bh (l t:List UInt8):Bool:=decide (t.length≤l.length) && (Lib.toUpperA (l.take t.length) == t)
theorem Dc {l t:List UInt8} {k:Nat} (b:k < t.length) (c:t.length≤l.length) (a:Lib.upperB (l.getD k 0)≠t.getD k 0):bh l t=false:=by
 unfold bh;rw [Bool.and_eq_false_iff]
 right
 rw [←Bool.not_eq_true,beq_iff_eq];intro e;apply a;rw [←e];unfold Lib.toUpperA;rw [List.getD_eq_getElem?_getD,List.getD_eq_getElem?_getD,List.getElem?_map,List.getElem?_take_of_lt b,List.getElem?_eq_getElem (by omega:k < l.length)];rfl
theorem AG {l t:List UInt8} (b:t.length≤l.length) (h:∀j,j < t.length→Lib.upperB (l.getD j 0)=t.getD j 0):bh l t=true:=by
 unfold bh;rw [Bool.and_eq_true,decide_eq_true_eq,beq_iff_eq];refine ⟨b,List.ext_getElem (by unfold Lib.toUpperA;rw [List.length_map,List.length_take];omega) fun j c a=>?_⟩;have:=h j a;rw [List.getD_eq_getElem?_getD,List.getD_eq_getElem?_getD,List.getElem?_eq_getElem (by omega:j < l.length),List.getElem?_eq_getElem a] at this;have e:(Lib.toUpperA (l.take t.length))[j]=Lib.upperB l[j]:=by simp [Lib.toUpperA]
 rw [e];exact this
theorem Ia {c:UInt8} (h:¬(97≤(c.toNat:Int)∧(c.toNat:Int)≤122)):Lib.upperB c=c:=by
 unfold Lib.upperB Lib.isLowerB;rw [if_neg];simp only [Bool.and_eq_true,decide_eq_true_eq,UInt8.le_iff_toNat_le];intro a;apply h;have b:(97:UInt8).toNat=97:=rfl;have d:(122:UInt8).toNat=122:=rfl;omega
theorem GC {c:UInt8} (h:97≤(c.toNat:Int)∧(c.toNat:Int)≤122):((Lib.upperB c).toNat:Int)=(c.toNat:Int) - 32:=by
 unfold Lib.upperB Lib.isLowerB;have a:(97:UInt8).toNat=97:=rfl;have b:(122:UInt8).toNat=122:=rfl;rw [if_pos]
 ·have d:(32:UInt8).toNat=32:=rfl;rw [UInt8.toNat_sub];omega
 ·simp only [Bool.and_eq_true,decide_eq_true_eq,UInt8.le_iff_toNat_le];omega
theorem I9 (s:ByteArray) (k:Nat) (h:k < s.size):s.data.toList.getD k 0=s[k]:=by rw [List.getD_eq_getElem?_getD,me s k h];rfl
theorem sR (s t:ByteArray) (w:World) (N:s.size≤4294967296) (_:t.size≤4294967296):
  Calls Tryz.prog 53 #[.string s,.string t] w fun e L=>e= .returned (.bool (bh s.data.toList t.data.toList))∧w=L:=by
 obtain ⟨B,v⟩:∃B,bh s.data.toList t.data.toList=B:=⟨_,rfl⟩;rw [v];have g:=Lib.hid v;clear v
 by_cases F:s.size < t.size
 ·have D:(s.size:Int) < (t.size:Int):=by omega
  have l:Hid (B=false):=Lib.hid (by
   rw [←g.out];unfold bh;rw [Bool.and_eq_false_iff]
   left
   rw [fq,fq,decide_eq_false_iff_not]
   omega)
  go_enter Tryz.func53,Tryz.ntmps53;go_wp2_with fail
  go_ret;exact ⟨by rw [l.out];rfl,rfl⟩
 ·have D:¬(s.size:Int) < (t.size:Int):=by omega
  go_enter Tryz.func53,Tryz.ntmps53;go_wp2_with fail
  go_loop [5] (fun i=>∃k:Nat,k≤t.size∧i= .int .i64 k∧Hid (∀j:Nat,j < k→Lib.upperB (s.data.toList.getD j 0)=t.data.toList.getD j 0)) (fun i=>t.size - (intOf i).toNat)
  case atStart=>exact ⟨0,Nat.zero_le _,rfl,fun j y=>by omega⟩
  case round=>
   obtain ⟨k,M,rfl,E⟩:=hrel
   by_cases n:k < t.size
   ·have o:k < s.size:=by omega
    have p:(k:Int) < (t.size:Int):=by omega
    have b:t.data.toList.length≤s.data.toList.length:=by rw [fq,fq];omega
    have z:k < t.data.toList.length:=by rw [fq];exact n
    obtain ⟨c,J⟩:∃c,s[k]=c:=⟨_,rfl⟩;obtain ⟨d,K⟩:∃d,t[k]=d:=⟨_,rfl⟩;have g1:=I9 s k o;have g2:=I9 t k n;rw [J] at g1;rw [K] at g2;obtain ⟨u,f⟩:∃u,Lib.upperB c=u:=⟨_,rfl⟩;have r:=Lib.hid b;have q:=Lib.hid z
    by_cases e:u=d
    ·have m:Hid (∀j:Nat,j < k+1→Lib.upperB (s.data.toList.getD j 0)=t.data.toList.getD j 0):=Lib.hid fun j y=>by
      by_cases G:j < k
      ·exact E.out j G
      ·obtain rfl:j=k:=by omega
       rw [g1,g2,f,e]
     by_cases h:97≤(c.toNat:Int)∧(c.toNat:Int)≤122
     ·have a:=GC h;rw [f,e] at a;have H:IntKind.u8.wrap ((c.toNat:Int) - 32)=(d.toNat:Int):=by rw [IntKind.wrap_u8];omega
      obtain ⟨A,C⟩:=h;clear g1 g2 b f e a;go_wp2_with fail
      exact ⟨⟨k+1,by omega,by go_num,m⟩,by simp [intOf];omega⟩
     ·have a:=Ia h;rw [f,e] at a;subst a;clear g1 g2 b f e;go_wp2_with fail
      all_goals exact ⟨⟨k+1,by omega,by go_num,m⟩,by simp [intOf];omega⟩
    ·have l:Hid (B=false):=Lib.hid (by
      rw [←g.out]
      exact Dc q.out r.out (by rw [g1,g2,f];exact e))
     by_cases h:97≤(c.toNat:Int)∧(c.toNat:Int)≤122
     ·have a:=GC h;rw [f] at a;have H:IntKind.u8.wrap ((c.toNat:Int) - 32)=(u.toNat:Int):=by rw [IntKind.wrap_u8];omega
      have I:¬(u.toNat:Int)=(d.toNat:Int):=fun x=>e (UInt8.toNat_inj.1 (by omega));obtain ⟨A,C⟩:=h;clear g1 g2 b f e a;go_wp2_with fail
      go_ret;exact ⟨by rw [l.out];rfl,rfl⟩
     ·have a:=Ia h;rw [f] at a;subst a;have I:¬(u.toNat:Int)=(d.toNat:Int):=fun x=>e (UInt8.toNat_inj.1 (by omega));clear g1 g2 b f e;go_wp2_with fail
      all_goals
       go_ret;exact ⟨by rw [l.out];rfl,rfl⟩
   ·have p:¬(k:Int) < (t.size:Int):=by omega
    have l:Hid (B=true):=Lib.hid (by
     rw [←g.out];refine AG (by rw [fq,fq];omega) fun j y=>E.out j ?_;rw [fq] at y
     omega)
    go_wp2_with fail
    go_ret;exact ⟨by rw [l.out];rfl,rfl⟩
def Dr (l:List UInt8):List UInt8:=(bS 64 l).2.1
theorem sU (s:ByteArray) (w:World) (p:s.size≤4294967296):
  Calls Tryz.prog 85 #[.string s] w fun e n=>e= .returned (.string ⟨(Dr s.data.toList).toArray⟩)∧w=n:=by
 go_enter Tryz.func85,Tryz.ntmps85;go_wp2_with fail
 go_loop [3] (fun i=>∃k:Nat,k≤s.size∧i= .int .i64 k∧Hid (∀j:Nat,j < k→s.data.toList[j]? ≠some 64)) (fun i=>s.size - (intOf i).toNat)
 case atStart=>exact ⟨0,Nat.zero_le _,rfl,fun j g=>by omega⟩
 case round=>
  obtain ⟨k,o,rfl,f⟩:=hrel
  by_cases l:k < s.size
  ·have a:(k:Int) < (s.size:Int):=by omega
   have m:Hid (s.data.toList[k]? =some s[k]):=me s k l
   by_cases c:(((s[k]).toNat:Int) == 64)=true
   ·have d:=Lib.hid (wS (b:=64) rfl c);go_wp2_with fail
    go_ret;refine ⟨?_,rfl⟩;unfold Dr;rw [xm 64 s.data.toList k (by rw [m.out,d.out]) f.out]
    congr 2
    rw [←Lib.extract_to_end];rfl
   ·have c:=Bool.eq_false_iff.2 c;have d:=Lib.hid (wT (b:=64) rfl c);go_wp2_with fail
    exact ⟨⟨k+1,by omega,by go_num,Lib.hid fun j g=>by
     by_cases e:j < k
     ·exact f.out j e
     ·obtain rfl:j=k:=by omega
      rw [m.out];intro h
      exact d.out (Option.some.inj h)⟩,by simp [intOf];omega⟩
  ·have a:¬(k:Int) < (s.size:Int):=by omega
   go_wp2_with fail
   go_ret;refine ⟨?_,rfl⟩;unfold Dr
   rw [rB 64 _ (fun j=>by
    by_cases g:j < k
    ·exact f.out j g
    ·rw [List.getElem?_eq_none (by simp;omega)];simp)]
   rfl
def my (n:Nat) (c:UInt8):Nat:=if 48≤c.toNat∧c.toNat≤57 then 10 * n+(c.toNat - 48) else n
def lq (l:List UInt8):Nat:=(l.drop 4).foldl my 0
theorem Hh (l:List UInt8):∀n,n≤l.foldl my n:=by
 induction l with
 | nil=>exact fun n=>Nat.le_refl _
 | cons c r ih=>
  intro n;refine Nat.le_trans ?_ (ih _);unfold my
  split <;> omega
theorem D3 (l:List UInt8) (k:Nat):lq (l.take k)≤lq l:=by
 have e:l.drop 4=(l.take k).drop 4++(l.drop 4).drop (k - 4):=by
  rw [List.drop_take];exact (List.take_append_drop _ _).symm
 unfold lq;rw [e,List.foldl_append];exact Hh _ _
theorem DZ {l:List UInt8} {k:Nat} (a:k < l.length):lq (l.take (k+1))=if 3 < k then my (lq (l.take k)) l[k] else 0:=by
 unfold lq;rw [List.take_succ_eq_append_getElem a]
 by_cases h:3 < k
 ·rw [if_pos h,List.drop_append_of_le_length (by rw [List.length_take];omega),List.foldl_append];rfl
 ·rw [if_neg h,List.drop_eq_nil_of_le (by rw [List.length_append,List.length_take];simp;omega)];rfl
theorem oh {l:List UInt8} {k:Nat} (a:¬3 < k):lq (l.take k)=0:=by
 unfold lq;rw [List.drop_eq_nil_of_le (by rw [List.length_take];omega)];rfl
theorem sV (s:ByteArray) (w:World) (H:s.size≤4294967296) (u:lq s.data.toList≤1000000000000):
  Calls Tryz.prog 16 #[.string s] w fun e A=>e= .returned (.int .i64 (lq s.data.toList:Nat))∧w=A:=by
 obtain ⟨N,o⟩:∃N,lq s.data.toList=N:=⟨_,rfl⟩;rw [o] at u ⊢;have q:=Lib.hid o;have y:Hid (∀k,lq (s.data.toList.take k)≤1000000000000):=Lib.hid fun k=>Nat.le_trans (D3 _ _) (by rw [o];exact u);clear o u;go_enter Tryz.func16,Tryz.ntmps16;go_wp2_with fail
 go_loop [3,4] (fun n i=>∃k m:Nat,k≤s.size∧i= .int .i64 k∧n= .int .i64 m∧Hid (lq (s.data.toList.take k)=m)) (fun _ i=>s.size - (intOf i).toNat)
 case atStart=>exact ⟨0,0,Nat.zero_le _,rfl,rfl,Lib.hid (oh (by decide))⟩
 case round=>
  obtain ⟨k,m,G,rfl,rfl,l⟩:=hrel
  by_cases h:k < s.size
  ·have j:(k:Int) < (s.size:Int):=by omega
   have g:k < s.data.toList.length:=by rw [fq];exact h
   have p:s.data.toList[k]=s[k]:=by have:=me s k h;rw [List.getElem?_eq_getElem g] at this;exact Option.some.inj this
   have a:=DZ g;rw [p,l.out] at a;have b:=y.out (k+1);obtain ⟨c,z⟩:∃c,s[k]=c:=⟨_,rfl⟩;rw [z] at a
   by_cases f:48≤(c.toNat:Int)∧(c.toNat:Int)≤57
   ·by_cases F:(3:Int) < (k:Int)
    ·rw [if_pos (by omega)] at a;unfold my at a;rw [if_pos (by omega)] at a;rw [a] at b;have B:IntKind.u8.wrap ((c.toNat:Int) - 48)=(c.toNat:Int) - 48:=by rw [IntKind.wrap_u8];omega
     have C:IntKind.i64.wrap ((c.toNat:Int) - 48)=(c.toNat:Int) - 48:=by rw [IntKind.wrap_i64];omega
     have D:IntKind.i64.wrap (10 * (m:Int))=10 * (m:Int):=by rw [IntKind.wrap_i64];omega
     have E:IntKind.i64.wrap (10 * (m:Int)+((c.toNat:Int) - 48))=((10 * m+(c.toNat - 48):Nat):Int):=by rw [IntKind.wrap_i64];omega
     have d:=Lib.hid a;obtain ⟨r,v⟩:=f;clear a b p;go_wp2_with fail
     exact ⟨⟨k+1,_,by omega,by go_num,rfl,d⟩,by simp [intOf];omega⟩
    ·rw [if_neg (by omega)] at a;have t:m=0:=by rw [←l.out];exact oh (by omega)
     subst t;have d:=Lib.hid a;obtain ⟨r,v⟩:=f;clear a b p;go_wp2_with fail
     exact ⟨⟨k+1,0,by omega,by go_num,rfl,d⟩,by simp [intOf];omega⟩
   ·have d:Hid (lq (s.data.toList.take (k+1))=m):=Lib.hid (by
     rw [a]
     split
     ·unfold my;rw [if_neg (by omega)]
     ·rw [←l.out];exact (oh (by omega)).symm)
    clear a b p
    by_cases r:48≤(c.toNat:Int)
    ·have v:¬(c.toNat:Int)≤57:=fun x=>f ⟨r,x⟩;clear f;go_wp2_with fail
     exact ⟨⟨k+1,m,by omega,by go_num,rfl,d⟩,by simp [intOf];omega⟩
    ·clear f;go_wp2_with fail
     exact ⟨⟨k+1,m,by omega,by go_num,rfl,d⟩,by simp [intOf];omega⟩
  ·have j:¬(k:Int) < (s.size:Int):=by omega
   have d:Hid (m=N):=Lib.hid (by
    rw [←l.out,←q.out,List.take_of_length_le (by rw [fq];omega)])
   go_wp2_with fail
   go_ret;exact ⟨by rw [d.out];rfl,rfl⟩
theorem nX (l:List UInt8) (w:World) (d:l.length≤281474976710656):Calls Tryz.prog 69 #[.string (bs l)] w fun e a=>e= .returned (.string (bs l))∧Below w.heap.size w a:=by
 have c:=Tryz.stringslite_Clone (bs l) w (by rw [aI];exact d);go_enter Tryz.func69,Tryz.ntmps69;go_wp2_with fail
 refine c.mono ?_;rintro e a ⟨rfl,b⟩;go_wp2_with fail
 go_ret;exact ⟨rfl,b⟩
def gg (l:List (Nat×List UInt8)):List (List UInt8):=l.map (·.2)
theorem zN {D:Array Value} {k n:Nat} {b:List Value} {x:Value} (e:D.size=n) (f:k < n) (d:b.length=k) (h:D.toList.take k=b):(D.setIfInBounds k x).toList.take (k+1)=b++[x]:=by
 apply List.ext_getElem?;intro j;rw [List.getElem?_take]
 rcases Nat.lt_or_ge j k with c | c
 ·rw [if_pos (by omega),List.getElem?_append_left (by omega),Array.getElem?_toList,Array.getElem?_setIfInBounds_ne (by omega),←h,List.getElem?_take,if_pos c,Array.getElem?_toList]
 ·rw [List.getElem?_append_right (by omega),d]
  rcases Nat.lt_or_ge j (k+1) with a | a
  ·obtain rfl:j=k:=by omega
   rw [if_pos (by omega),Array.getElem?_toList,Array.getElem?_setIfInBounds];simp;omega
  ·rw [if_neg (by omega),List.getElem?_eq_none (by simp;omega)]
structure TS (w:World) (W:World) (s n:Nat) (D:Array Value) (xs:List Value) (k:Nat):Prop where
 size:D.size=n
 take:D.toList.take k=xs
 row:W.heap[s+1]? =some (.cells D 9 (0,0))
 mail:W.heap[s]? =some (.cells #[.int .i64 0,.int .i64 0,.string ⟨#[]⟩,.slice none 0 0,.string ⟨#[]⟩] 45 (0,0))
 below:Below s w W
 big:s+2≤W.heap.size
theorem TS.keep {w W b:World} {s n k:Nat} {D:Array Value} {c:List Value} (h:TS w W s n D c k) (a:Below W.heap.size W b):TS w b s n D c k:=
 ⟨h.size,h.take,ae a h.row,ae a h.mail,h.below.trans (a.mono (by have:=h.big;omega)),Nat.le_trans h.big a.size⟩
theorem TS.put {w W:World} {s n k:Nat} {D:Array Value} {b:List Value} (h:TS w W s n D b k) (c:k < n) (d:b.length=k) (x:Value):TS w (W.setCell ⟨s+1,k,none⟩ x) s n (D.setIfInBounds k x) (b++[x]) (k+1):=by
 have a:aH (s+1) W (W.setCell ⟨s+1,k,none⟩ x):=(aH.refl _ _).setCell _;exact ⟨by simp [h.size],zN h.size c d h.take,heap_setCell_same W (s+1) k _ _ x h.row,aJ a h.mail (by omega),h.below.trans (a.below (by omega)),by rw [a.1];exact h.big⟩
theorem Gw {w W c:World} {l:List (Nat×List UInt8)} {g b:Nat} {d a:List UInt8} {D:Array Value} (h:TS w W w.heap.size l.length D (az (gg l)) l.length)
  (f:(((((W.setCell ⟨w.heap.size,0,none⟩ (.int .i64 g)).setCell ⟨w.heap.size,1,none⟩ (.int .i64 b)).setCell ⟨w.heap.size,2,none⟩ (.string (bs d))).setCell ⟨w.heap.size,3,none⟩ (.slice (some ⟨w.heap.size+1,0,none⟩) l.length l.length)).setCell ⟨w.heap.size,4,none⟩ (.string (bs a)))=c) (i:l.length≤255):
  c.heap[w.heap.size]? =some (.cells #[.int .i64 g,.int .i64 b,.string (bs d),.slice (some ⟨w.heap.size+1,0,none⟩) l.length l.length,.string (bs a)] 45 (0,0))∧c.ownsRow w.heap.size 9 1 (.slice (some ⟨w.heap.size+1,0,none⟩) l.length l.length) l.length (az (gg l))∧Below w.heap.size w c:=by
 have e:aH w.heap.size W c:=by rw [←f];exact (((((aH.refl _ _).setCell _).setCell _).setCell _).setCell _).setCell _
 refine ⟨?_,⟨by simp [az,gg],.inr ⟨w.heap.size+1,l.length,D,rfl,by omega,aJ e h.row (by omega),Nat.le_refl _,by unfold maxLen;omega,by rw [h.size];omega,?_⟩⟩,h.below.trans (e.below (Nat.le_refl _))⟩
 ·rw [←f];exact heap_setCell_same _ _ 4 _ _ _ (heap_setCell_same _ _ 3 _ _ _ (heap_setCell_same _ _ 2 _ _ _ (heap_setCell_same _ _ 1 _ _ _ (heap_setCell_same _ _ 0 _ _ _ h.mail))))
 ·rw [Nat.mul_one,h.take]
theorem Gv (O q id d:Nat) (f b:List UInt8) (v:Value) (l:List (Nat×List UInt8)) (x:Int×Int) (w:World) (h:dD w q d f v b x) (hv:w.ownsRow O 162 2 v l.length (aL l)) (hl:l.length≤255) (hf:f.length≤255) (b6:b.length≤1048576) (hn:∀x∈l,x.2.length≤255):
  Calls Tryz.prog 60 #[.pointer (some ⟨q,0,none⟩),.int .i64 id] w fun e A=>∃g,e= .returned (.agg (aV ⟨id,d,f,gg l,b⟩ (.slice (some ⟨g,0,none⟩) l.length l.length)))∧w.heap.size≤g∧A.ownsRow w.heap.size 9 1 (.slice (some ⟨g,0,none⟩) l.length l.length) l.length (az (gg l))∧Below w.heap.size w A:=by
 have HV:=Lib.hid hv;have HH:=Lib.hid h
 obtain ⟨E,H,rfl⟩:∃a c,v= .slice a l.length c:=by
  rcases hv.2 with ⟨e,h0⟩ | ⟨g,b5,b1,e,_⟩
  ·exact ⟨_,_,by rw [h0];exact e⟩
  ·exact ⟨_,_,e⟩
 have X:=fun A=>BC (P:=Tryz.prog) Tryz.underlying25 mQ l.length (by omega) (by omega) A;obtain ⟨C,eC⟩:∃C,madeCells (Value.string ⟨#[]⟩).cells (l.length * 1)=C:=⟨_,rfl⟩;have S:C.size=l.length:=by rw [←eC];simp [madeCells]
 rw [eC] at X;obtain ⟨W0,p⟩:∃W0:World,(w.alloc (.cells #[.int .i64 0,.int .i64 0,.string ⟨#[]⟩,.slice none 0 0,.string ⟨#[]⟩] 45)).alloc (.cells C 9)=W0:=⟨_,rfl⟩
 have T0:Hid (TS w W0 w.heap.size l.length C [] 0):=Lib.hid ⟨S,rfl,by
   rw [←p];have:=heap_alloc_new (w.alloc (.cells #[.int .i64 0,.int .i64 0,.string ⟨#[]⟩,.slice none 0 0,.string ⟨#[]⟩] 45)) (.cells C 9);simpa using this,by
   rw [←p];exact ae ((Below.refl _ _).alloc (Nat.le_refl _) _) (heap_alloc_new w _),by
   rw [←p]
   exact ((Below.refl _ _).alloc (Nat.le_refl _) _).alloc (by simp) _,by rw [←p];simp⟩
 have b3:q < w.heap.size:=rE h
 have k0:∀o:Obj,(w.alloc o).cell? ⟨q,2,none⟩=some (.slice E l.length H):=fun o=>by
  rw [Lib.cell_of_heap (ae ((Below.refl _ w).alloc (Nat.le_refl _) o) h)];rfl
 have k1:∀o o':Obj,((w.alloc o).alloc o').cell? ⟨q,2,none⟩=some (.slice E l.length H):=fun o o'=>by
  rw [Lib.cell_of_heap (ae ((Below.refl _ (w.alloc o)).alloc (Nat.le_refl _) o') (ae ((Below.refl _ w).alloc (Nat.le_refl _) o) h))];rfl
 have a7:=Lib.hid p;clear h hv p;go_enter Tryz.func60,Tryz.ntmps60;go_wp2_with fail
 rw [a7.out];have a5:Hid (∀x∈l,x.2.length≤255):=Lib.hid hn;clear k0 k1 hn X;go_loopw [6,7,19] (fun _ _ i A=>∃(k:Nat) (D:Array Value),k≤l.length∧i= .int .i64 k∧Hid (TS w A w.heap.size l.length D (az (gg (l.take k))) k)) (fun _ _ i _=>l.length - (intOf i).toNat)
 case atStart=>exact ⟨0,C,Nat.zero_le _,rfl,T0⟩
 case round=>
  clear T0 S eC;obtain ⟨k,D,hk,rfl,z⟩:=hrel
  by_cases t:k < l.length
  ·have b4:(k:Int) < (l.length:Int):=by omega
   obtain ⟨g,rfl,Q,R⟩:∃g,E=some ⟨g,0,none⟩∧w.cell? ⟨g,k * 2,none⟩=some (.int .i64 (l[k].1:Int))∧w.cell? ⟨g,k * 2+1,none⟩=some (.string (bs l[k].2)):=by
    rcases HV.out.2 with ⟨_,h0⟩ | ⟨g,cp,b1,e,_,hg,_,_,_,Y⟩
    ·omega
    ·injection e with e1 _ _;refine ⟨g,e1,?_,?_⟩
     ·rw [Lib.cell_of_heap hg,←Array.getElem?_toList,←List.getElem?_take_of_lt (show k * 2 < l.length * 2 by omega),Y];exact (dF l k t).1
     ·rw [Lib.cell_of_heap hg,←Array.getElem?_toList,←List.getElem?_take_of_lt (show k * 2+1 < l.length * 2 by omega),Y];exact (dF l k t).2
   have d0:wr.cell? ⟨g,k * 2,none⟩=some (.int .i64 (l[k].1:Int)):=(z.out.below.cell (by exact aA Q)).trans Q;have d1:wr.cell? ⟨g,k * 2+1,none⟩=some (.string (bs l[k].2)):=(z.out.below.cell (by exact aA R)).trans R;have Z:=a5.out l[k] (List.getElem_mem t);have B:Hid (az (gg (l.take (k+1)))=az (gg (l.take k))++[.string (bs l[k].2)]):=Lib.hid (by rw [List.take_succ_eq_append_getElem t];unfold gg az;rw [List.map_append,List.map_append];rfl);have a9:Hid ((az (gg (l.take k))).length=k):=Lib.hid (by simp [gg,az];omega);obtain ⟨x,ex⟩:∃x,l[k]=x:=⟨_,rfl⟩;rw [ex] at d0 d1 Z B;obtain ⟨P,T⟩:=x;simp only at d0 d1 Z B;obtain ⟨W1,F⟩:∃W1:World,wr.alloc (.cells #[.int .i64 (P:Int),.string (bs T)] 162)=W1:=⟨_,rfl⟩;have B1:Below wr.heap.size wr W1:=by rw [←F];exact (Below.refl _ _).alloc (Nat.le_refl _) _
   have T1:=Lib.hid (z.out.keep B1);have a8:=Lib.hid F;have a3:=Lib.hid (nX T W1 (by omega));clear ex Q R z B1 F;go_wp2_with fail
   rw [a8.out];refine a3.out.mono ?_;rintro e w2 ⟨rfl,V⟩;have N:=T1.out.keep V;have x0:∃u,w2.cell? ⟨w.heap.size+1,k,none⟩=some u:=by rw [Lib.cell_of_heap N.row];exact ⟨_,Array.getElem?_eq_getElem (by have:=N.size;omega)⟩
   obtain ⟨u0,x0⟩:=x0;have y0:=Lib.frozen_of_heap N.row k;have T3:=Lib.hid (N.put t a9.out (.string (bs T)));clear N V;go_wp2_with fail
   exact ⟨⟨k+1,_,by omega,by go_num,Lib.hid (by rw [B.out];exact T3.out)⟩,by simp [intOf];omega⟩
  ·have b2:k=l.length:=by omega
   subst b2;rw [List.take_length] at z;have U:dD wr q d f (.slice E l.length H) b x:=(z.out.below.block q b3).trans HH.out;have p0:wr.drew.cell? ⟨q,0,none⟩=some (.int .i64 d):=by show wr.cell? _=_;rw [Lib.cell_of_heap U];rfl
   have p1:wr.drew.cell? ⟨q,1,none⟩=some (.string (bs f)):=by show wr.cell? _=_;rw [Lib.cell_of_heap U];rfl
   have p3:wr.drew.cell? ⟨q,3,none⟩=some (.string (bs b)):=by show wr.cell? _=_;rw [Lib.cell_of_heap U];rfl
   have a6:=Lib.hid (z.out.keep ((Below.refl _ _).drew));have a4:Hid (dD wr.drew q d f (.slice E l.length H) b x):=Lib.hid U;have a2:=Lib.hid (nX f wr.drew (by omega));have a1:Hid (∀W:World,Calls Tryz.prog 69 #[.string (bs b)] W fun e A=>e= .returned (.string (bs b))∧Below W.heap.size W A):=Lib.hid (fun W=>nX b W (by omega));clear U z;go_wp2_with fail
   go_region_law (first
    | (go_simp;go_at_call 69;refine a2.out.mono ?_;rintro e w9 ⟨rfl,G⟩;have T9:=Lib.hid (a6.out.keep G);have P9:Hid (dD w9 q d f (.slice E l.length H) b x):=Lib.hid (ae G a4.out);have b7:w9.cell? ⟨q,0,none⟩=some (.int .i64 d):=(by rw [Lib.cell_of_heap P9.out];rfl);have b8:w9.cell? ⟨q,3,none⟩=some (.string (bs b)):=(by rw [Lib.cell_of_heap P9.out];rfl);clear G)
    | (go_simp;go_at_call 69;refine (a1.out w9).mono ?_;rintro e j ⟨rfl,s⟩;have r:=T9.out.keep s;have M:dD j q d f (.slice E l.length H) b x:=ae s P9.out;have a0:j.cell? ⟨q,0,none⟩=some (.int .i64 d):=(by rw [Lib.cell_of_heap M];rfl);have m0:j.cell? ⟨w.heap.size,0,none⟩=some (.int .i64 0):=(by rw [Lib.cell_of_heap r.mail];rfl);have m1:j.cell? ⟨w.heap.size,1,none⟩=some (.int .i64 0):=(by rw [Lib.cell_of_heap r.mail];rfl);have m2:j.cell? ⟨w.heap.size,2,none⟩=some (.string ⟨#[]⟩):=(by rw [Lib.cell_of_heap r.mail];rfl);have m3:j.cell? ⟨w.heap.size,3,none⟩=some (.slice none 0 0):=(by rw [Lib.cell_of_heap r.mail];rfl);have m4:j.cell? ⟨w.heap.size,4,none⟩=some (.string ⟨#[]⟩):=(by rw [Lib.cell_of_heap r.mail];rfl);have n0:=Lib.frozen_of_heap r.mail 0;have n1:=Lib.frozen_of_heap r.mail 1;have n2:=Lib.frozen_of_heap r.mail 2;have n3:=Lib.frozen_of_heap r.mail 3;have n4:=Lib.frozen_of_heap r.mail 4;have b0:=Lib.hid r;clear s r M))
   all_goals
    obtain ⟨m,y⟩:∃m:World,(((((j.setCell ⟨w.heap.size,0,none⟩ (.int .i64 id)).setCell ⟨w.heap.size,1,none⟩ (.int .i64 d)).setCell ⟨w.heap.size,2,none⟩ (.string (bs f))).setCell ⟨w.heap.size,3,none⟩ (.slice (some ⟨w.heap.size+1,0,none⟩) l.length l.length)).setCell ⟨w.heap.size,4,none⟩ (.string (bs b)))=m:=⟨_,rfl⟩;rw [y];obtain ⟨n,L,I⟩:=Gw b0.out y hl;have Q:m.cell? ⟨w.heap.size,0,none⟩=some (.int .i64 id):=by rw [Lib.cell_of_heap n];rfl
    have R:m.cell? ⟨w.heap.size,1,none⟩=some (.int .i64 d):=by rw [Lib.cell_of_heap n];rfl
    have c2:m.cell? ⟨w.heap.size,2,none⟩=some (.string (bs f)):=by rw [Lib.cell_of_heap n];rfl
    have c3:m.cell? ⟨w.heap.size,3,none⟩=some (.slice (some ⟨w.heap.size+1,0,none⟩) l.length l.length):=by rw [Lib.cell_of_heap n];rfl
    have c4:m.cell? ⟨w.heap.size,4,none⟩=some (.string (bs b)):=by rw [Lib.cell_of_heap n];rfl
    have K:=Lib.hid L;have J:=Lib.hid I;clear y n L I m0 m1 m2 m3 m4 n0 n1 n2 n3 n4 a0 p0 p1 p3;go_wp2_with fail
    refine bodyPost_ret (v:= .agg #[.int .i64 id,.int .i64 d,.string (bs f),.slice (some ⟨w.heap.size+1,0,none⟩) l.length l.length,.string (bs b)]) (by simp [results,Tryz.results60,go_sem,Q,R,c2,c3,c4]) rfl ?_;exact ⟨w.heap.size+1,rfl,by omega,K.out,J.out⟩
theorem pQ:(Tryz.prog.info? 3).map (fun i=>(i.zero,i.size,i.bytes))=some (some (.int .i64 0),1,8):=by kernel_rfl
structure PS (w W:World) (s n:Nat) (D:Array Value) (xs:List Value) (k:Nat):Prop where
 size:D.size=n
 take:D.toList.take k=xs
 row:W.heap[s]? =some (.cells D 3 (0,0))
 below:Below s w W
 big:s+1≤W.heap.size
theorem PS.keep {w W b:World} {s n k:Nat} {D:Array Value} {c:List Value} (h:PS w W s n D c k) (a:Below W.heap.size W b):PS w b s n D c k:=
 ⟨h.size,h.take,ae a h.row,h.below.trans (a.mono (by have:=h.big;omega)),Nat.le_trans h.big a.size⟩
theorem PS.put {w W:World} {s n k:Nat} {D:Array Value} {a:List Value} (h:PS w W s n D a k) (c:k < n) (d:a.length=k) (x:Value):PS w (W.setCell ⟨s,k,none⟩ x) s n (D.setIfInBounds k x) (a++[x]) (k+1):=by
 have b:aH s W (W.setCell ⟨s,k,none⟩ x):=(aH.refl _ _).setCell _;exact ⟨by simp [h.size],zN h.size c d h.take,heap_setCell_same W s k _ _ x h.row,h.below.trans (b.below (by omega)),by rw [b.1];exact h.big⟩
theorem BT (s q B:Nat) (N t:List UInt8) (v:Value) (l:List (Nat×List UInt8)) (x:Int×Int) (w:World) (h:dD w q B N v t x) (Q:w.ownsRow s 162 2 v l.length (aL l)) (hl:l.length≤255):
  Calls Tryz.prog 84 #[.pointer (some ⟨q,0,none⟩)] w fun e n=>∃g,e= .returned (.slice (some ⟨g,0,none⟩) l.length l.length)∧n.ownsRow w.heap.size 3 1 (.slice (some ⟨g,0,none⟩) l.length l.length) l.length (aX (l.map (·.1)))∧Below w.heap.size w n:=by
 have HV:=Lib.hid Q
 obtain ⟨I,V,rfl⟩:∃a c,v= .slice a l.length c:=by
  rcases Q.2 with ⟨e,Z⟩ | ⟨g,a1,L,e,_⟩
  ·exact ⟨_,_,by rw [Z];exact e⟩
  ·exact ⟨_,_,e⟩
 have z:=fun n=>BC (P:=Tryz.prog) Tryz.underlying28 pQ l.length (by omega) (by omega) n;obtain ⟨C,M⟩:∃C,madeCells (Value.int .i64 0).cells (l.length * 1)=C:=⟨_,rfl⟩;have y:C.size=l.length:=by rw [←M];simp [madeCells]
 rw [M] at z;obtain ⟨H,b⟩:∃H:World,w.alloc (.cells C 3)=H:=⟨_,rfl⟩;have U:Hid (PS w H w.heap.size l.length C [] 0):=Lib.hid ⟨y,rfl,by rw [←b];exact heap_alloc_new w _,by rw [←b];exact (Below.refl _ _).alloc (Nat.le_refl _) _,by rw [←b];simp⟩
 have k0:w.cell? ⟨q,2,none⟩=some (.slice I l.length V):=by rw [Lib.cell_of_heap h];rfl
 have k1:∀o:Obj,(w.alloc o).cell? ⟨q,2,none⟩=some (.slice I l.length V):=fun o=>by rw [Lib.cell_of_heap (ae ((Below.refl _ w).alloc (Nat.le_refl _) o) h)];rfl
 have E:=Lib.hid b;clear h Q b;go_enter Tryz.func84,Tryz.ntmps84;go_wp2_with fail
 rw [E.out];clear k0 k1 z;go_loopw [4,5,17] (fun _ _ i n=>∃(k:Nat) (D:Array Value),k≤l.length∧i= .int .i64 k∧Hid (PS w n w.heap.size l.length D (aX ((l.map (·.1)).take k)) k)) (fun _ _ i _=>l.length - (intOf i).toNat)
 case atStart=>exact ⟨0,C,Nat.zero_le _,rfl,U⟩
 case round=>
  clear U y M;obtain ⟨k,D,hk,rfl,j⟩:=hrel
  by_cases f:k < l.length
  ·have a0:(k:Int) < (l.length:Int):=by omega
   obtain ⟨g,rfl,J,K⟩:∃g,I=some ⟨g,0,none⟩∧w.cell? ⟨g,k * 2,none⟩=some (.int .i64 (l[k].1:Int))∧w.cell? ⟨g,k * 2+1,none⟩=some (.string (bs l[k].2)):=by
    rcases HV.out.2 with ⟨_,Z⟩ | ⟨g,cp,L,e,_,hg,_,_,_,A⟩
    ·omega
    ·injection e with e1 _ _;refine ⟨g,e1,?_,?_⟩
     ·rw [Lib.cell_of_heap hg,←Array.getElem?_toList,←List.getElem?_take_of_lt (show k * 2 < l.length * 2 by omega),A];exact (dF l k f).1
     ·rw [Lib.cell_of_heap hg,←Array.getElem?_toList,←List.getElem?_take_of_lt (show k * 2+1 < l.length * 2 by omega),A];exact (dF l k f).2
   have W:wr.cell? ⟨g,k * 2,none⟩=some (.int .i64 (l[k].1:Int)):=(j.out.below.cell (by exact aA J)).trans J;have X:wr.cell? ⟨g,k * 2+1,none⟩=some (.string (bs l[k].2)):=(j.out.below.cell (by exact aA K)).trans K;have m:Hid (aX ((l.map (·.1)).take (k+1))=aX ((l.map (·.1)).take k)++[.int .i64 (l[k].1:Int)]):=Lib.hid (by rw [List.take_succ_eq_append_getElem (by rw [List.length_map];exact f)];unfold aX;rw [List.map_append,List.getElem_map];rfl);have G:Hid ((aX ((l.map (·.1)).take k)).length=k):=Lib.hid (by simp [aX];omega);obtain ⟨x,Y⟩:∃x,l[k]=x:=⟨_,rfl⟩;rw [Y] at W X m;obtain ⟨P,T⟩:=x;simp only at W X m;obtain ⟨r,d⟩:∃r:World,wr.alloc (.cells #[.int .i64 (P:Int),.string (bs T)] 162)=r:=⟨_,rfl⟩;have S:Below wr.heap.size wr r:=by rw [←d];exact (Below.refl _ _).alloc (Nat.le_refl _) _
   have p:=j.out.keep S;have R:∃u,r.cell? ⟨w.heap.size,k,none⟩=some u:=by rw [Lib.cell_of_heap p.row];exact ⟨_,Array.getElem?_eq_getElem (by have:=p.size;omega)⟩
   obtain ⟨u0,R⟩:=R;have y0:=Lib.frozen_of_heap p.row k;have z0:r.cell? ⟨wr.heap.size,0,none⟩=some (.int .i64 (P:Int)):=by rw [←d,Lib.cell_of_heap (heap_alloc_new wr _)];rfl
   have T3:=Lib.hid (p.put f G.out (.int .i64 (P:Int)));have F:=Lib.hid d;rw [←d] at R y0;clear Y J K j S d p z0;go_wp2_with fail
   rw [F.out];exact ⟨⟨k+1,_,by omega,by go_num,Lib.hid (by rw [m.out];exact T3.out)⟩,by simp [intOf];omega⟩
  ·have O:k=l.length:=by omega
   subst O;go_wp2_with fail
   go_ret;refine ⟨w.heap.size,rfl,⟨by simp [aX],.inr ⟨w.heap.size,l.length,D,rfl,Nat.le_refl _,j.out.row,Nat.le_refl _,by unfold maxLen;omega,by rw [j.out.size];omega,?_⟩⟩,j.out.below⟩
   rw [Nat.mul_one,j.out.take,List.take_of_length_le (by rw [List.length_map];exact Nat.le_refl _)]
end Go.Proofs.YtofpegbpgkkgkaaGreatDoor
