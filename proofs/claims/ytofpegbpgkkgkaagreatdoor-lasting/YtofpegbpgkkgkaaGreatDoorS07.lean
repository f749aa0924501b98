import Derived.Test.YtofpegbpgkkgkaaGreatDoorChecked
import Derived.Conc.LoneCalls
import Derived.KernelRfl
import Derived.Conc.LoneSelect
import Derived.Defers
import Derived.Test.YtofpegbpgkkgkaaGreatDoorS05
import Derived.Test.YtofpegbpgkkgkaaGreatDoorS04
namespace Go.Proofs.YtofpegbpgkkgkaaGreatDoor
set_option maxHeartbeats 8000000
set_option maxRecDepth 1000000
open Go.RowKit
theorem fE (s:ByteArray):s.data.toList.length=s.size:=by simp
def hZ (l:List UInt8) (k:Nat):Bool:=l[k]? == some 13 && l[k+1]? == some 10
def gf (l:List UInt8):List UInt8×List UInt8:=
 match (List.range l.length).find? (hZ l) with
 | some k=>(l.take k,l.drop (k+2))
 | none=>(l,[])
theorem yh {l:List UInt8} {k:Nat} (h:hZ l k=true) (c:∀j,j < k→hZ l j=false):gf l=(l.take k,l.drop (k+2)):=by
 have b:k < l.length:=by
  unfold hZ at h;rw [Bool.and_eq_true] at h
  by_cases e:k < l.length
  ·exact e
  ·rw [List.getElem?_eq_none (by omega)] at h
   cases h.1
 unfold gf;rw [List.find?_range_eq_some.2 ⟨h,List.mem_range.2 b,fun j a=>by rw [c j a];rfl⟩]
theorem FU {l:List UInt8} (a:∀j,hZ l j=false):gf l=(l,[]):=by
 unfold gf;rw [List.find?_range_eq_none.2 fun j _=>by rw [a j];rfl]
theorem GA {s:ByteArray} {k:Nat} (d:k < s.size) (e:k+1 < s.size) (a:(((s[k]).toNat:Int) == 13)=true) (c:(((s[k+1]).toNat:Int) == 10)=true):hZ s.data.toList k=true:=by
 unfold hZ;rw [mU s k d,mU s (k+1) e,yG (b:=13) rfl a,yG (b:=10) rfl c];rfl
theorem Gy {s:ByteArray} {k:Nat} (c:k < s.size) (a:(((s[k]).toNat:Int) == 13)=false):hZ s.data.toList k=false:=by
 unfold hZ;rw [mU s k c,Bool.and_eq_false_iff]
 left
 have:=yH (b:=13) rfl a;simpa using this
theorem Gz {s:ByteArray} {k:Nat} (c:k+1 < s.size) (a:(((s[k+1]).toNat:Int) == 10)=false):hZ s.data.toList k=false:=by
 unfold hZ;rw [mU s (k+1) c,Bool.and_eq_false_iff]
 right
 have:=yH (b:=10) rfl a;simpa using this
theorem Gx {s:ByteArray} {k:Nat} (h:¬k+1 < s.size):hZ s.data.toList k=false:=by
 unfold hZ;rw [Bool.and_eq_false_iff]
 right
 rw [List.getElem?_eq_none (by rw [fE];omega)];rfl
def pr (l:List UInt8) (w:World) (e:Ending) (w':World):Prop:=
 e= .returned (.tuple #[.string ⟨(gf l).1.toArray⟩,.string ⟨(gf l).2.toArray⟩])∧∃n,w'=w.drewN n
theorem pr.mk {l:List UInt8} {w:World} {e:Ending} {a:World} (x y:ByteArray) (c:e= .returned (.tuple #[.string x,.string y])) (b:gf l=(x.data.toList,y.data.toList)) (n:Nat) (d:a=w.drewN n):pr l w e a:=by
 refine ⟨?_,n,d⟩;rw [b,c]
theorem wO (s:ByteArray) (w:World) (n:s.size≤4294967296):
  Calls Tryz.prog 15 #[.string s] w (pr s.data.toList w):=by
 go_enter Tryz.func15,Tryz.ntmps15;go_wp2_with fail
 go_loop [4] (fun i=>∃k:Nat,k≤s.size∧i= .int .i64 k∧Hid (∀j:Nat,j < k→hZ s.data.toList j=false)) (fun i=>s.size - (intOf i).toNat)
 case atStart=>exact ⟨0,Nat.zero_le _,rfl,fun j l=>by omega⟩
 case round=>
  obtain ⟨k,m,rfl,f⟩:=hrel;have o:IntKind.i64.wrap ((k:Int)+1)=(k:Int)+1:=by rw [IntKind.wrap_i64];omega
  by_cases c:k+1 < s.size
  ·have a:k < s.size:=by omega
   have d:(k:Int)+1 < (s.size:Int):=by omega
   by_cases g:(((s[k]).toNat:Int) == 13)=true
   ·by_cases h:(((s[k+1]).toNat:Int) == 10)=true
    ·have b:=Lib.hid (GA a c g h);go_wp2_with fail
     go_region
     go_wp2_with fail
     go_ret2
     refine pr.mk _ _ rfl ?_ 1 rfl;rw [yh b.out f.out,Lib.extract_data,Lib.extract_to_end];rfl
    ·have h:=Bool.eq_false_iff.2 h;have b:=Lib.hid (Gz c h);go_wp2_with fail
     exact ⟨⟨k+1,by omega,by go_num,Lib.hid fun j l=>by
      by_cases e:j < k
      ·exact f.out j e
      ·obtain rfl:j=k:=by omega
       exact b.out⟩,by simp [intOf];omega⟩
   ·have g:=Bool.eq_false_iff.2 g;have b:=Lib.hid (Gy a g);go_wp2_with fail
    exact ⟨⟨k+1,by omega,by go_num,Lib.hid fun j l=>by
     by_cases e:j < k
     ·exact f.out j e
     ·obtain rfl:j=k:=by omega
      exact b.out⟩,by simp [intOf];omega⟩
  ·have d:¬(k:Int)+1 < (s.size:Int):=by omega
   go_wp2_with fail
   go_ret2
   refine pr.mk s ⟨#[]⟩ rfl (FU fun j=>?_) 0 rfl
   by_cases l:j < k
   ·exact f.out j l
   ·exact Gx (by omega)
def bu (l t:List UInt8):Bool:=decide (t.length≤l.length) && (Lib.toUpperA (l.take t.length) == t)
theorem EB {l t:List UInt8} {k:Nat} (b:k < t.length) (c:t.length≤l.length) (a:Lib.upperB (l.getD k 0)≠t.getD k 0):bu l t=false:=by
 unfold bu;rw [Bool.and_eq_false_iff]
 right
 rw [←Bool.not_eq_true,beq_iff_eq];intro e;apply a;rw [←e];unfold Lib.toUpperA;rw [List.getD_eq_getElem?_getD,List.getD_eq_getElem?_getD,List.getElem?_map,List.getElem?_take_of_lt b,List.getElem?_eq_getElem (by omega:k < l.length)];rfl
theorem Ck {l t:List UInt8} (b:t.length≤l.length) (h:∀j,j < t.length→Lib.upperB (l.getD j 0)=t.getD j 0):bu l t=true:=by
 unfold bu;rw [Bool.and_eq_true,decide_eq_true_eq,beq_iff_eq];refine ⟨b,List.ext_getElem (by unfold Lib.toUpperA;rw [List.length_map,List.length_take];omega) fun j c a=>?_⟩;have:=h j a;rw [List.getD_eq_getElem?_getD,List.getD_eq_getElem?_getD,List.getElem?_eq_getElem (by omega:j < l.length),List.getElem?_eq_getElem a] at this;have e:(Lib.toUpperA (l.take t.length))[j]=Lib.upperB l[j]:=by simp [Lib.toUpperA]
 rw [e];exact this
theorem JL {c:UInt8} (h:¬(97≤(c.toNat:Int)∧(c.toNat:Int)≤122)):Lib.upperB c=c:=by
 unfold Lib.upperB Lib.isLowerB;rw [if_neg];simp only [Bool.and_eq_true,decide_eq_true_eq,UInt8.le_iff_toNat_le];intro a;apply h;have b:(97:UInt8).toNat=97:=rfl;have d:(122:UInt8).toNat=122:=rfl;omega
theorem IU {c:UInt8} (h:97≤(c.toNat:Int)∧(c.toNat:Int)≤122):((Lib.upperB c).toNat:Int)=(c.toNat:Int) - 32:=by
 unfold Lib.upperB Lib.isLowerB;have a:(97:UInt8).toNat=97:=rfl;have b:(122:UInt8).toNat=122:=rfl;rw [if_pos]
 ·have d:(32:UInt8).toNat=32:=rfl;rw [UInt8.toNat_sub];omega
 ·simp only [Bool.and_eq_true,decide_eq_true_eq,UInt8.le_iff_toNat_le];omega
theorem Eh (s:ByteArray) (k:Nat) (h:k < s.size):s.data.toList.getD k 0=s[k]:=by rw [List.getD_eq_getElem?_getD,mU s k h];rfl
theorem uu (s t:ByteArray) (w:World) (N:s.size≤4294967296) (_:t.size≤4294967296):
  Calls Tryz.prog 53 #[.string s,.string t] w fun e L=>e= .returned (.bool (bu s.data.toList t.data.toList))∧w=L:=by
 obtain ⟨B,v⟩:∃B,bu s.data.toList t.data.toList=B:=⟨_,rfl⟩;rw [v];have g:=Lib.hid v;clear v
 by_cases F:s.size < t.size
 ·have D:(s.size:Int) < (t.size:Int):=by omega
  have l:Hid (B=false):=Lib.hid (by
   rw [←g.out];unfold bu;rw [Bool.and_eq_false_iff]
   left
   rw [fE,fE,decide_eq_false_iff_not]
   omega)
  go_enter Tryz.func53,Tryz.ntmps53;go_wp2_with fail
  go_ret;exact ⟨by rw [l.out];rfl,rfl⟩
 ·have D:¬(s.size:Int) < (t.size:Int):=by omega
  go_enter Tryz.func53,Tryz.ntmps53;go_wp2_with fail
  go_loop [5] (fun i=>∃k:Nat,k≤t.size∧i= .int .i64 k∧Hid (∀j:Nat,j < k→Lib.upperB (s.data.toList.getD j 0)=t.data.toList.getD j 0)) (fun i=>t.size - (intOf i).toNat)
  case atStart=>exact ⟨0,Nat.zero_le _,rfl,fun j y=>by omega⟩
  case round=>
   obtain ⟨k,M,rfl,E⟩:=hrel
   by_cases n:k < t.size
   ·have o:k < s.size:=by omega
    have p:(k:Int) < (t.size:Int):=by omega
    have b:t.data.toList.length≤s.data.toList.length:=by rw [fE,fE];omega
    have z:k < t.data.toList.length:=by rw [fE];exact n
    obtain ⟨c,J⟩:∃c,s[k]=c:=⟨_,rfl⟩;obtain ⟨d,K⟩:∃d,t[k]=d:=⟨_,rfl⟩;have g1:=Eh s k o;have g2:=Eh t k n;rw [J] at g1;rw [K] at g2;obtain ⟨u,f⟩:∃u,Lib.upperB c=u:=⟨_,rfl⟩;have r:=Lib.hid b;have q:=Lib.hid z
    by_cases e:u=d
    ·have m:Hid (∀j:Nat,j < k+1→Lib.upperB (s.data.toList.getD j 0)=t.data.toList.getD j 0):=Lib.hid fun j y=>by
      by_cases G:j < k
      ·exact E.out j G
      ·obtain rfl:j=k:=by omega
       rw [g1,g2,f,e]
     by_cases h:97≤(c.toNat:Int)∧(c.toNat:Int)≤122
     ·have a:=IU h;rw [f,e] at a;have H:IntKind.u8.wrap ((c.toNat:Int) - 32)=(d.toNat:Int):=by rw [IntKind.wrap_u8];omega
      obtain ⟨A,C⟩:=h;clear g1 g2 b f e a;go_wp2_with fail
      exact ⟨⟨k+1,by omega,by go_num,m⟩,by simp [intOf];omega⟩
     ·have a:=JL h;rw [f,e] at a;subst a;clear g1 g2 b f e;go_wp2_with fail
      all_goals exact ⟨⟨k+1,by omega,by go_num,m⟩,by simp [intOf];omega⟩
    ·have l:Hid (B=false):=Lib.hid (by
      rw [←g.out]
      exact EB q.out r.out (by rw [g1,g2,f];exact e))
     by_cases h:97≤(c.toNat:Int)∧(c.toNat:Int)≤122
     ·have a:=IU h;rw [f] at a;have H:IntKind.u8.wrap ((c.toNat:Int) - 32)=(u.toNat:Int):=by rw [IntKind.wrap_u8];omega
      have I:¬(u.toNat:Int)=(d.toNat:Int):=fun x=>e (UInt8.toNat_inj.1 (by omega));obtain ⟨A,C⟩:=h;clear g1 g2 b f e a;go_wp2_with fail
      go_ret;exact ⟨by rw [l.out];rfl,rfl⟩
     ·have a:=JL h;rw [f] at a;subst a;have I:¬(u.toNat:Int)=(d.toNat:Int):=fun x=>e (UInt8.toNat_inj.1 (by omega));clear g1 g2 b f e;go_wp2_with fail
      all_goals
       go_ret;exact ⟨by rw [l.out];rfl,rfl⟩
   ·have p:¬(k:Int) < (t.size:Int):=by omega
    have l:Hid (B=true):=Lib.hid (by
     rw [←g.out];refine Ck (by rw [fE,fE];omega) fun j y=>E.out j ?_;rw [fE] at y
     omega)
    go_wp2_with fail
    go_ret;exact ⟨by rw [l.out];rfl,rfl⟩
def ET (l:List UInt8):List UInt8:=(cz 64 l).2.1
theorem uv (s:ByteArray) (w:World) (p:s.size≤4294967296):
  Calls Tryz.prog 85 #[.string s] w fun e n=>e= .returned (.string ⟨(ET s.data.toList).toArray⟩)∧w=n:=by
 go_enter Tryz.func85,Tryz.ntmps85;go_wp2_with fail
 go_loop [3] (fun i=>∃k:Nat,k≤s.size∧i= .int .i64 k∧Hid (∀j:Nat,j < k→s.data.toList[j]? ≠some 64)) (fun i=>s.size - (intOf i).toNat)
 case atStart=>exact ⟨0,Nat.zero_le _,rfl,fun j g=>by omega⟩
 case round=>
  obtain ⟨k,o,rfl,f⟩:=hrel
  by_cases l:k < s.size
  ·have a:(k:Int) < (s.size:Int):=by omega
   have m:Hid (s.data.toList[k]? =some s[k]):=mU s k l
   by_cases c:(((s[k]).toNat:Int) == 64)=true
   ·have d:=Lib.hid (yG (b:=64) rfl c);go_wp2_with fail
    go_ret;refine ⟨?_,rfl⟩;unfold ET;rw [yS 64 s.data.toList k (by rw [m.out,d.out]) f.out]
    congr 2
    rw [←Lib.extract_to_end];rfl
   ·have c:=Bool.eq_false_iff.2 c;have d:=Lib.hid (yH (b:=64) rfl c);go_wp2_with fail
    exact ⟨⟨k+1,by omega,by go_num,Lib.hid fun j g=>by
     by_cases e:j < k
     ·exact f.out j e
     ·obtain rfl:j=k:=by omega
      rw [m.out];intro h
      exact d.out (Option.some.inj h)⟩,by simp [intOf];omega⟩
  ·have a:¬(k:Int) < (s.size:Int):=by omega
   go_wp2_with fail
   go_ret;refine ⟨?_,rfl⟩;unfold ET
   rw [sW 64 _ (fun j=>by
    by_cases g:j < k
    ·exact f.out j g
    ·rw [List.getElem?_eq_none (by simp;omega)];simp)]
   rfl
def mH (n:Nat) (c:UInt8):Nat:=if 48≤c.toNat∧c.toNat≤57 then 10 * n+(c.toNat - 48) else n
def kB (l:List UInt8):Nat:=(l.drop 4).foldl mH 0
theorem Js (l:List UInt8):∀n,n≤l.foldl mH n:=by
 induction l with
 | nil=>exact fun n=>Nat.le_refl _
 | cons c r ih=>
  intro n;refine Nat.le_trans ?_ (ih _);unfold mH
  split <;> omega
theorem Fx (l:List UInt8) (k:Nat):kB (l.take k)≤kB l:=by
 have e:l.drop 4=(l.take k).drop 4++(l.drop 4).drop (k - 4):=by
  rw [List.drop_take];exact (List.take_append_drop _ _).symm
 unfold kB;rw [e,List.foldl_append];exact Js _ _
theorem Fw {l:List UInt8} {k:Nat} (a:k < l.length):kB (l.take (k+1))=if 3 < k then mH (kB (l.take k)) l[k] else 0:=by
 unfold kB;rw [List.take_succ_eq_append_getElem a]
 by_cases h:3 < k
 ·rw [if_pos h,List.drop_append_of_le_length (by rw [List.length_take];omega),List.foldl_append];rfl
 ·rw [if_neg h,List.drop_eq_nil_of_le (by rw [List.length_append,List.length_take];simp;omega)];rfl
theorem o7 {l:List UInt8} {k:Nat} (a:¬3 < k):kB (l.take k)=0:=by
 unfold kB;rw [List.drop_eq_nil_of_le (by rw [List.length_take];omega)];rfl
theorem nh (s:ByteArray) (w:World) (H:s.size≤4294967296) (u:kB s.data.toList≤1000000000000):
  Calls Tryz.prog 16 #[.string s] w fun e A=>e= .returned (.int .i64 (kB s.data.toList:Nat))∧w=A:=by
 obtain ⟨N,o⟩:∃N,kB s.data.toList=N:=⟨_,rfl⟩;rw [o] at u ⊢;have q:=Lib.hid o;have y:Hid (∀k,kB (s.data.toList.take k)≤1000000000000):=Lib.hid fun k=>Nat.le_trans (Fx _ _) (by rw [o];exact u);clear o u;go_enter Tryz.func16,Tryz.ntmps16;go_wp2_with fail
 go_loop [3,4] (fun n i=>∃k m:Nat,k≤s.size∧i= .int .i64 k∧n= .int .i64 m∧Hid (kB (s.data.toList.take k)=m)) (fun _ i=>s.size - (intOf i).toNat)
 case atStart=>exact ⟨0,0,Nat.zero_le _,rfl,rfl,Lib.hid (o7 (by decide))⟩
 case round=>
  obtain ⟨k,m,G,rfl,rfl,l⟩:=hrel
  by_cases h:k < s.size
  ·have j:(k:Int) < (s.size:Int):=by omega
   have g:k < s.data.toList.length:=by rw [fE];exact h
   have p:s.data.toList[k]=s[k]:=by have:=mU s k h;rw [List.getElem?_eq_getElem g] at this;exact Option.some.inj this
   have a:=Fw g;rw [p,l.out] at a;have b:=y.out (k+1);obtain ⟨c,z⟩:∃c,s[k]=c:=⟨_,rfl⟩;rw [z] at a
   by_cases f:48≤(c.toNat:Int)∧(c.toNat:Int)≤57
   ·by_cases F:(3:Int) < (k:Int)
    ·rw [if_pos (by omega)] at a;unfold mH at a;rw [if_pos (by omega)] at a;rw [a] at b;have B:IntKind.u8.wrap ((c.toNat:Int) - 48)=(c.toNat:Int) - 48:=by rw [IntKind.wrap_u8];omega
     have C:IntKind.i64.wrap ((c.toNat:Int) - 48)=(c.toNat:Int) - 48:=by rw [IntKind.wrap_i64];omega
     have D:IntKind.i64.wrap (10 * (m:Int))=10 * (m:Int):=by rw [IntKind.wrap_i64];omega
     have E:IntKind.i64.wrap (10 * (m:Int)+((c.toNat:Int) - 48))=((10 * m+(c.toNat - 48):Nat):Int):=by rw [IntKind.wrap_i64];omega
     have d:=Lib.hid a;obtain ⟨r,v⟩:=f;clear a b p;go_wp2_with fail
     exact ⟨⟨k+1,_,by omega,by go_num,rfl,d⟩,by simp [intOf];omega⟩
    ·rw [if_neg (by omega)] at a;have t:m=0:=by rw [←l.out];exact o7 (by omega)
     subst t;have d:=Lib.hid a;obtain ⟨r,v⟩:=f;clear a b p;go_wp2_with fail
     exact ⟨⟨k+1,0,by omega,by go_num,rfl,d⟩,by simp [intOf];omega⟩
   ·have d:Hid (kB (s.data.toList.take (k+1))=m):=Lib.hid (by
     rw [a]
     split
     ·unfold mH;rw [if_neg (by omega)]
     ·rw [←l.out];exact (o7 (by omega)).symm)
    clear a b p
    by_cases r:48≤(c.toNat:Int)
    ·have v:¬(c.toNat:Int)≤57:=fun x=>f ⟨r,x⟩;clear f;go_wp2_with fail
     exact ⟨⟨k+1,m,by omega,by go_num,rfl,d⟩,by simp [intOf];omega⟩
    ·clear f;go_wp2_with fail
     exact ⟨⟨k+1,m,by omega,by go_num,rfl,d⟩,by simp [intOf];omega⟩
  ·have j:¬(k:Int) < (s.size:Int):=by omega
   have d:Hid (m=N):=Lib.hid (by
    rw [←l.out,←q.out,List.take_of_length_le (by rw [fE];omega)])
   go_wp2_with fail
   go_ret;exact ⟨by rw [d.out];rfl,rfl⟩
theorem oP (b:World) (B a n:Nat) (l:List UInt8) (f:l.length=n) (e:∀(j:Nat),j < n→b.cell? ⟨B,j,none⟩=some (.int .u8 ((l.getD j 0).toNat:Int))):
  (convert 114 9 (.slice (some ⟨B,0,none⟩) n a)).run Tryz.prog b= .ok (.string ⟨l.toArray⟩) b:=by
 subst f;refine run_convert_bytes_back (P:=Tryz.prog) b 114 9 5 ⟨B,0,none⟩ a l Tryz.underlying114 Tryz.underlying5 Tryz.underlying9 (fun j c=>?_)
 have d:(Addr.add ⟨B,0,none⟩ j)=⟨B,j,none⟩:=by
  unfold Addr.add;simp <;> omega
 rw [d,e j c,List.getD_eq_getElem?_getD,List.getElem?_eq_getElem c];rfl
open Go.Conc Go.RowKit
theorem yJ {P:Program} {Q:Goroutine→World→Prop} {f:FuncId} {b:Array Value} {w:World} {R:Ending→World→Prop} {c:Frame} {g:List Frame} (h:Calls P f b w R) (n:∀a d,¬R (.panicked a) d) (m:∀d,¬R .outgrown d)
  (k:∀v d,R (.returned v) d→LoneTo P Q (G (c.finish v) g) d):LoneTo P Q (G (Frame.enter P f b .normal) (c::g)) w:=by
 obtain ⟨e,d,r,i,j,_,l⟩:=h (c::g)
 cases e with
 | returned v=>
  obtain ⟨g2,q,p,o⟩:=k v d i;exact ⟨g2,q,Steps.trans j (Steps.head (step_leave_returned l) p),o⟩
 | panicked a=>exact absurd i (n _ _)
 | outgrown=>exact absurd i (m _)
def oX:Option Code→Code
 | some (.block _ (.loop c))=>c
 | _=> .skip
def gE (f:Func):Code:=oX f.body
theorem F7 (q:List UInt8→World→Prop) (sb i:Nat) (u:Bool) (V:Value) (W:List Frame) (R:World→Prop)
  (X:∀a l w,q a w→l.length≤1048576→a.length+l.length≤140737488355328→Calls Tryz.prog 96 #[V,.string (bs l)] w fun e j=>(∃v,e= .returned v)∧q (a++l) j∧∀o,w.heap[i]? =some o→j.heap[i]? =some o)
  (d:∀a w,q a w→w.cell? ⟨sb,3,none⟩=some (.chan (some i)))
  (p:∀a w M y s r,q a w→w.heap[i]? =some (.chan 3 M false s r u)→q a (w.setChan i 3 y false s (r+1) u)):
  ∀(g:List (List UInt8)) (a:List UInt8) (w:World) (s r:Nat) (u2 u3 u4 u5 u6 u7 u8 u9 u10 u11 u12 u13 u14 u15:Value),q a w→w.heap[i]? =some (.chan 3 (g.map fun l=>Value.string (bs l)).toArray false s r u)→(∀l∈g,l.length≤1048576)→a.length+g.flatten.length≤140737488355328→
   (∀j U T,q (a++g.flatten) j→j.heap[i]? =some (.chan 3 #[] false U T u)→R j)→
   LoneTo Tryz.prog (fun g' j=>∃e N,g'=G N W∧(e= .returned (.tuple #[])∧R j)∧N.fn=63∧N.leaving Tryz.prog j e)
    (G ((base 63).at ⟨#[.pointer (some ⟨sb,0,none⟩),V,u2,u3,u4,u5,u6,u7,u8,u9,u10,u11,u12,u13,u14,u15],[]⟩ [.code (gE Tryz.f63),.inLoop (gE Tryz.f63),.inBlock 0]) W) w:=by
 intro g
 induction g with
 | nil=>
  intro a w s r u2 u3 u4 u5 u6 u7 u8 u9 u10 u11 u12 u13 u14 u15 t b _ _ K;have Y:=d a w t;have F:=K w s r (by simpa using t) (by simpa using b);simp only [List.map_nil] at b;clear X d p K;refine LoneTo.goes (n:=30) ?_;simp only [gE,oX,Tryz.f63]
  s_c stepG_block
  s_c stepG_seq
  s_reg
  s_op
  s_op
  s_op
  s_op
  s_c stepG_region_end
  s_c stepG_seq
  s_reg
  s_stop
  refine LoneTo.step (step_lone_select_default (c:=i) (z:= .string ⟨#[]⟩) (stepG_comm (cases:=#[rcase i (.string ⟨#[]⟩)]) (blocking:=false) (shape:= .select) (w':=w) rfl rfl (by decide) (by simp [go_sem,rcase,Act.eval,execOp])) b) ?_;rw [Frame.finish_at]
  walk_nrm
  refine LoneTo.goes (n:=20) ?_
  s_op
  s_op
  s_c stepG_region_end
  s_c stepG_block
  s_cond false
  s_c stepG_ret'
  s_stop
  exact LoneTo.done ⟨.returned (.tuple #[]),_,rfl,⟨rfl,F⟩,rfl,rfl,rfl,rfl,_,Tryz.func63,by simp [results,Tryz.f63,Frame.at]⟩
 | cons l g ih=>
  intro a w s r u2 u3 u4 u5 u6 u7 u8 u9 u10 u11 u12 u13 u14 u15 t b Z B K;have Y:=d a w t;have S:=Z l (List.mem_cons_self ..);have C:a.length+l.length≤140737488355328:=by rw [List.flatten_cons,List.length_append] at B;omega
  have D:(a++l).length+g.flatten.length≤140737488355328:=by rw [List.flatten_cons,List.length_append] at B;rw [List.length_append];omega
  have A:=p a w _ (g.map fun l=>Value.string (bs l)).toArray s r t b;have H:((((l::g).map fun l=>Value.string (bs l)).toArray).extract 1 (((l::g).map fun l=>Value.string (bs l)).toArray).size)=(g.map fun l=>Value.string (bs l)).toArray:=by simp [List.take_of_length_le]
  have I:((((l::g).map fun l=>Value.string (bs l)).toArray).getD 0 undef)= .string (bs l):=by simp
  have m:i < w.heap.size:=(Array.getElem?_eq_some_iff.1 b).1;refine LoneTo.goes (n:=30) ?_;simp only [gE,oX,Tryz.f63]
  s_c stepG_block
  s_c stepG_seq
  s_reg
  s_op
  s_op
  s_op
  s_op
  s_c stepG_region_end
  s_c stepG_seq
  s_reg
  s_stop
  refine LoneTo.step (step_lone_select_recv_buf (c:=i) (z:= .string ⟨#[]⟩) (stepG_comm (cases:=#[rcase i (.string ⟨#[]⟩)]) (blocking:=false) (shape:= .select) (w':=w) rfl rfl (by decide) (by simp [go_sem,rcase,Act.eval,execOp])) b (by simp)) ?_;rw [H,I];rw [Frame.finish_at]
  walk_nrm
  have k:=heap_setChan w i 3 (g.map fun l=>Value.string (bs l)).toArray false s (r+1) u m;obtain ⟨L,J⟩:∃L,w.setChan i 3 (g.map fun l=>Value.string (bs l)).toArray false s (r+1) u=L:=⟨_,rfl⟩;rw [J] at A k ⊢;clear J Y b t H I m;refine LoneTo.goes (n:=30) ?_
  s_op
  s_op
  s_c stepG_region_end
  s_c stepG_block
  s_cond true
  s_c stepG_seq
  s_reg
  s_op
  s_op
  s_c stepG_region_end
  s_reg
  s_op
  s_op
  s_stop
  refine LoneTo.step (step_solo_go rfl (stepG_enter (f:=96) (args:=#[V,.string (bs l)]) (w':=L) rfl rfl (by decide) (by simp [go_sem,Act.eval,execOp]))) ?_;refine yJ (X a l L A S C) (fun _ _ h=>by obtain ⟨⟨_,h⟩,_⟩:=h;cases h) (fun _ h=>by obtain ⟨⟨_,h⟩,_⟩:=h;cases h) fun v w2 O=>?_;obtain ⟨_,P,Q⟩:=O;have E:=Q _ k;rw [Frame.finish_at]
  walk_nrm
  refine LoneTo.goes (n:=30) ?_
  s_c stepG_region_end
  s_c stepG_inBlock
  s_c stepG_inBlock
  s_c stepG_inLoop
  s_stop
  exact ih (a++l) w2 s (r+1) _ _ _ _ _ _ _ _ _ _ _ _ _ _ P E (fun x hx=>Z x (List.mem_cons_of_mem _ hx)) D (fun j U T h1 O=>K j U T (by rw [List.flatten_cons,←List.append_assoc];exact h1) O)
theorem zB (b:List UInt8→World→Prop) (sb c s r:Nat) (j:Bool) (k:Value) (i:List (List UInt8)) (a:List UInt8) (w:World)
  (B:∀a l w,b a w→l.length≤1048576→a.length+l.length≤140737488355328→Calls Tryz.prog 96 #[k,.string (bs l)] w fun e f=>(∃v,e= .returned v)∧b (a++l) f∧∀o,w.heap[c]? =some o→f.heap[c]? =some o)
  (d:∀a w,b a w→w.cell? ⟨sb,3,none⟩=some (.chan (some c)))
  (h:∀a w m g s r,b a w→w.heap[c]? =some (.chan 3 m false s r j)→b a (w.setChan c 3 g false s (r+1) j))
  (A:b a w) (q:w.heap[c]? =some (.chan 3 (i.map fun l=>Value.string (bs l)).toArray false s r j)) (C:∀l∈i,l.length≤1048576) (p:a.length+i.flatten.length≤140737488355328):
  Calls Tryz.prog 63 #[.pointer (some ⟨sb,0,none⟩),k] w fun e f=>e= .returned (.tuple #[])∧∃u t,b (a++i.flatten) f∧f.heap[c]? =some (.chan 3 #[] false u t j):=by
 refine calls_of_loneTo fun x=>?_
 have e:Frame.enter Tryz.prog 63 #[.pointer (some ⟨sb,0,none⟩),k] .normal=(base 63).at ⟨#[.pointer (some ⟨sb,0,none⟩),k,undef,undef,undef,undef,undef,undef,undef,undef,undef,undef,undef,undef,undef,undef],[]⟩ [.code (.block 0 (.loop (gE Tryz.f63)))]:=by
  simp [Frame.enter,Frame.at,Tryz.func63,base,Tryz.f63,gE,oX]
 rw [e];refine LoneTo.goes (n:=2) ?_
 s_c stepG_block
 s_c stepG_loop
 s_stop
 exact F7 b sb c j k x _ B d h i a w s r _ _ _ _ _ _ _ _ _ _ _ _ _ _ A q C p (fun f u t y z=>⟨u,t,y,z⟩)
def D9 (f:FuncId):Frame:={base f with kind:= .deferred}
theorem DW (q:List UInt8→World→Prop) (sb i:Nat) (u:Bool) (V:Value) (W:List Frame) (R:World→Prop)
  (X:∀a l w,q a w→l.length≤1048576→a.length+l.length≤140737488355328→Calls Tryz.prog 96 #[V,.string (bs l)] w fun e j=>(∃v,e= .returned v)∧q (a++l) j∧∀o,w.heap[i]? =some o→j.heap[i]? =some o)
  (d:∀a w,q a w→w.cell? ⟨sb,3,none⟩=some (.chan (some i)))
  (p:∀a w M y s r,q a w→w.heap[i]? =some (.chan 3 M false s r u)→q a (w.setChan i 3 y false s (r+1) u)):
  ∀(g:List (List UInt8)) (a:List UInt8) (w:World) (s r:Nat) (u2 u3 u4 u5 u6 u7 u8 u9 u10 u11 u12 u13 u14 u15:Value),q a w→w.heap[i]? =some (.chan 3 (g.map fun l=>Value.string (bs l)).toArray false s r u)→(∀l∈g,l.length≤1048576)→a.length+g.flatten.length≤140737488355328→
   (∀j U T,q (a++g.flatten) j→j.heap[i]? =some (.chan 3 #[] false U T u)→R j)→
   LoneTo Tryz.prog (fun g' j=>∃e N,g'=G N W∧(e= .returned (.tuple #[])∧R j)∧N.kind= .deferred∧N.going Tryz.prog j e)
    (G ((D9 63).at ⟨#[.pointer (some ⟨sb,0,none⟩),V,u2,u3,u4,u5,u6,u7,u8,u9,u10,u11,u12,u13,u14,u15],[]⟩ [.code (gE Tryz.f63),.inLoop (gE Tryz.f63),.inBlock 0]) W) w:=by
 intro g
 induction g with
 | nil=>
  intro a w s r u2 u3 u4 u5 u6 u7 u8 u9 u10 u11 u12 u13 u14 u15 t b _ _ K;have Y:=d a w t;have F:=K w s r (by simpa using t) (by simpa using b);simp only [List.map_nil] at b;clear X d p K;refine LoneTo.goes (n:=30) ?_;simp only [gE,oX,Tryz.f63]
  s_c stepG_block
  s_c stepG_seq
  s_reg
  s_op
  s_op
  s_op
  s_op
  s_c stepG_region_end
  s_c stepG_seq
  s_reg
  s_stop
  refine LoneTo.step (step_lone_select_default (c:=i) (z:= .string ⟨#[]⟩) (stepG_comm (cases:=#[rcase i (.string ⟨#[]⟩)]) (blocking:=false) (shape:= .select) (w':=w) rfl rfl (by decide) (by simp [go_sem,rcase,Act.eval,execOp])) b) ?_;rw [Frame.finish_at]
  walk_nrm
  refine LoneTo.goes (n:=20) ?_
  s_op
  s_op
  s_c stepG_region_end
  s_c stepG_block
  s_cond false
  s_c stepG_ret'
  s_stop
  exact LoneTo.done ⟨.returned (.tuple #[]),_,rfl,⟨rfl,F⟩,rfl,rfl,rfl,_,Tryz.func63,by simp [results,Tryz.f63,Frame.at]⟩
 | cons l g ih=>
  intro a w s r u2 u3 u4 u5 u6 u7 u8 u9 u10 u11 u12 u13 u14 u15 t b Z B K;have Y:=d a w t;have S:=Z l (List.mem_cons_self ..);have C:a.length+l.length≤140737488355328:=by rw [List.flatten_cons,List.length_append] at B;omega
  have D:(a++l).length+g.flatten.length≤140737488355328:=by rw [List.flatten_cons,List.length_append] at B;rw [List.length_append];omega
  have A:=p a w _ (g.map fun l=>Value.string (bs l)).toArray s r t b;have H:((((l::g).map fun l=>Value.string (bs l)).toArray).extract 1 (((l::g).map fun l=>Value.string (bs l)).toArray).size)=(g.map fun l=>Value.string (bs l)).toArray:=by simp [List.take_of_length_le]
  have I:((((l::g).map fun l=>Value.string (bs l)).toArray).getD 0 undef)= .string (bs l):=by simp
  have m:i < w.heap.size:=(Array.getElem?_eq_some_iff.1 b).1;refine LoneTo.goes (n:=30) ?_;simp only [gE,oX,Tryz.f63]
  s_c stepG_block
  s_c stepG_seq
  s_reg
  s_op
  s_op
  s_op
  s_op
  s_c stepG_region_end
  s_c stepG_seq
  s_reg
  s_stop
  refine LoneTo.step (step_lone_select_recv_buf (c:=i) (z:= .string ⟨#[]⟩) (stepG_comm (cases:=#[rcase i (.string ⟨#[]⟩)]) (blocking:=false) (shape:= .select) (w':=w) rfl rfl (by decide) (by simp [go_sem,rcase,Act.eval,execOp])) b (by simp)) ?_;rw [H,I];rw [Frame.finish_at]
  walk_nrm
  have k:=heap_setChan w i 3 (g.map fun l=>Value.string (bs l)).toArray false s (r+1) u m;obtain ⟨L,J⟩:∃L,w.setChan i 3 (g.map fun l=>Value.string (bs l)).toArray false s (r+1) u=L:=⟨_,rfl⟩;rw [J] at A k ⊢;clear J Y b t H I m;refine LoneTo.goes (n:=30) ?_
  s_op
  s_op
  s_c stepG_region_end
  s_c stepG_block
  s_cond true
  s_c stepG_seq
  s_reg
  s_op
  s_op
  s_c stepG_region_end
  s_reg
  s_op
  s_op
  s_stop
  refine LoneTo.step (step_solo_go rfl (stepG_enter (f:=96) (args:=#[V,.string (bs l)]) (w':=L) rfl rfl (by decide) (by simp [go_sem,Act.eval,execOp]))) ?_;refine yJ (X a l L A S C) (fun _ _ h=>by obtain ⟨⟨_,h⟩,_⟩:=h;cases h) (fun _ h=>by obtain ⟨⟨_,h⟩,_⟩:=h;cases h) fun v w2 O=>?_;obtain ⟨_,P,Q⟩:=O;have E:=Q _ k;rw [Frame.finish_at]
  walk_nrm
  refine LoneTo.goes (n:=30) ?_
  s_c stepG_region_end
  s_c stepG_inBlock
  s_c stepG_inBlock
  s_c stepG_inLoop
  s_stop
  exact ih (a++l) w2 s (r+1) _ _ _ _ _ _ _ _ _ _ _ _ _ _ P E (fun x hx=>Z x (List.mem_cons_of_mem _ hx)) D (fun j U T h1 O=>K j U T (by rw [List.flatten_cons,←List.append_assoc];exact h1) O)
theorem xh (b:List UInt8→World→Prop) (sb c s r:Nat) (j:Bool) (y:Value) (i:List (List UInt8)) (a:List UInt8) (w:World) (m:List Frame)
  (D:∀a l w,b a w→l.length≤1048576→a.length+l.length≤140737488355328→Calls Tryz.prog 96 #[y,.string (bs l)] w fun e f=>(∃v,e= .returned v)∧b (a++l) f∧∀o,w.heap[c]? =some o→f.heap[c]? =some o)
  (d:∀a w,b a w→w.cell? ⟨sb,3,none⟩=some (.chan (some c)))
  (h:∀a w k g s r,b a w→w.heap[c]? =some (.chan 3 k false s r j)→b a (w.setChan c 3 g false s (r+1) j))
  (C:b a w) (t:w.heap[c]? =some (.chan 3 (i.map fun l=>Value.string (bs l)).toArray false s r j)) (E:∀l∈i,l.length≤1048576) (q:a.length+i.flatten.length≤140737488355328):
  LoneTo Tryz.prog (fun z f=>∃e p,z=G p m∧(e= .returned (.tuple #[])∧∃x u,b (a++i.flatten) f∧f.heap[c]? =some (.chan 3 #[] false x u j))∧p.kind= .deferred∧p.going Tryz.prog f e)
   (G ((D9 63).at ⟨#[.pointer (some ⟨sb,0,none⟩),y,undef,undef,undef,undef,undef,undef,undef,undef,undef,undef,undef,undef,undef,undef],[]⟩ [.code (.block 0 (.loop (gE Tryz.f63)))]) m) w:=by
 refine LoneTo.goes (n:=2) ?_
 s_c stepG_block
 s_c stepG_loop
 s_stop
 exact DW b sb c j y m _ D d h i a w s r _ _ _ _ _ _ _ _ _ _ _ _ _ _ C t E q (fun f x u A B=>⟨x,u,A,B⟩)
theorem vR (b:List UInt8→World→Prop) (sb d s r:Nat) (m:Bool) (n:Value) (k:List (List UInt8)) (a:List UInt8) (u:FrameMode) (w:World)
  (A:∀a l w,b a w→l.length≤1048576→a.length+l.length≤140737488355328→Calls Tryz.prog 96 #[n,.string (bs l)] w fun e g=>(∃v,e= .returned v)∧b (a++l) g∧∀o,w.heap[d]? =some o→g.heap[d]? =some o)
  (f:∀a w,b a w→w.cell? ⟨sb,3,none⟩=some (.chan (some d)))
  (j:∀a w p i s r,b a w→w.heap[d]? =some (.chan 3 p false s r m)→b a (w.setChan d 3 i false s (r+1) m))
  (z:b a w) (t:w.heap[d]? =some (.chan 3 (k.map fun l=>Value.string (bs l)).toArray false s r m)) (D:∀l∈k,l.length≤1048576) (q:a.length+k.flatten.length≤140737488355328):
  CallsD Tryz.prog 63 #[.pointer (some ⟨sb,0,none⟩),n] u w fun e u' g=>u'=u∧e= .returned (.tuple #[])∧∃H G,b (a++k.flatten) g∧g.heap[d]? =some (.chan 3 #[] false H G m):=by
 intro c x F;subst F
 have e:Frame.enter Tryz.prog 63 #[.pointer (some ⟨sb,0,none⟩),n] .deferred=(D9 63).at ⟨#[.pointer (some ⟨sb,0,none⟩),n,undef,undef,undef,undef,undef,undef,undef,undef,undef,undef,undef,undef,undef,undef],[]⟩ [.code (.block 0 (.loop (gE Tryz.f63)))]:=by
  simp [Frame.enter,Frame.at,Tryz.func63,D9,base,Tryz.f63,gE,oX]
 obtain ⟨_,g,E,I,y,rfl,⟨rfl,h⟩,C,B⟩:=xh b sb d s r m n k a w (c::x) A f j z t D q;rw [e];exact ⟨.returned (.tuple #[]),c.mode,g,y,⟨rfl,rfl,h⟩,E,C,B⟩
def jn (b:UInt8) (w:World) (e:Ending) (w':World):Prop:=e= .returned (.tuple #[.int .u32 (((iv b).getD 0:Nat):Int),.bool (iv b).isSome])∧w'=w
theorem jn.some {b:UInt8} {w:World} {e:Ending} {w':World} (k:Nat) (n:Int) (c:(k:Int)=n) (h:iv b=Option.some k) (a:e= .returned (.tuple #[.int .u32 n,.bool true])) (d:w'=w):jn b w e w':=⟨by rw [a,h,←c];rfl,d⟩
theorem jn.none {b:UInt8} {w:World} {e:Ending} {w':World} (h:iv b=Option.none) (a:e= .returned (.tuple #[.int .u32 0,.bool false])) (c:w'=w):jn b w e w':=⟨by rw [a,h];rfl,c⟩
theorem sG (b:UInt8) (w:World):Calls Tryz.prog 294 #[.int .u8 (b.toNat:Int)] w (jn b w):=by
 have q:(b.toNat:Int) < 256:=by have:=b.toNat_lt;omega
 have t:0≤(b.toNat:Int):=by omega
 by_cases e:65≤(b.toNat:Int)∧(b.toNat:Int)≤90
 ·have a:Hid (iv b=some (b.toNat - 65)):=by
   show _=_;unfold iv;rw [if_pos (by omega)]
  obtain ⟨g,m⟩:=e;go_enter Tryz.func294,Tryz.ntmps294;go_wp2
  go_ret2
  exact jn.some _ _ (by omega) a.out rfl rfl
 by_cases f:97≤(b.toNat:Int)∧(b.toNat:Int)≤122
 ·have a:Hid (iv b=some (b.toNat - 97+26)):=by
   show _=_;unfold iv;rw [if_neg (by omega),if_pos (by omega)]
  obtain ⟨g,m⟩:=f;clear e;have p:90 < (b.toNat:Int):=by omega
  go_enter Tryz.func294,Tryz.ntmps294;go_wp2
  go_ret2
  exact jn.some _ _ (by omega) a.out rfl rfl
 by_cases h:48≤(b.toNat:Int)∧(b.toNat:Int)≤57
 ·have a:Hid (iv b=some (b.toNat - 48+52)):=by
   show _=_;unfold iv;rw [if_neg (by omega),if_neg (by omega),if_pos (by omega)]
  obtain ⟨g,m⟩:=h;clear e f;have p:(b.toNat:Int) < 65:=by omega
  go_enter Tryz.func294,Tryz.ntmps294;go_wp2
  go_ret2
  exact jn.some _ _ (by omega) a.out rfl rfl
 have i:(decide (65≤(b.toNat:Int)) && decide ((b.toNat:Int)≤90))=false:=by simp;omega
 have j:(decide (97≤(b.toNat:Int)) && decide ((b.toNat:Int)≤122))=false:=by simp;omega
 have k:(decide (48≤(b.toNat:Int)) && decide ((b.toNat:Int)≤57))=false:=by simp;omega
 cases n:((b.toNat:Int) == 43) with
 | true=>
  have c:(b.toNat:Int)=43:=by simpa using n
  have a:Hid (iv b=some 62):=by
   show _=_;unfold iv;rw [if_neg (by omega),if_neg (by omega),if_neg (by omega),if_pos (by omega)]
  clear e f h i j k;have g:(b.toNat:Int) < 48:=by omega
  clear c;go_enter Tryz.func294,Tryz.ntmps294;go_wp2
  all_goals (go_ret2;exact jn.some _ _ rfl a.out rfl rfl)
 | false=>
  cases o:((b.toNat:Int) == 47) with
  | true=>
   have d:(b.toNat:Int)=47:=by simpa using o
   have a:Hid (iv b=some 63):=by
    show _=_;unfold iv;rw [if_neg (by omega),if_neg (by omega),if_neg (by omega),if_neg (by omega),if_pos (by omega)]
   clear e f h i j k;have g:(b.toNat:Int) < 48:=by omega
   clear d;go_enter Tryz.func294,Tryz.ntmps294;go_wp2
   all_goals (go_ret2;exact jn.some _ _ rfl a.out rfl rfl)
  | false=>
   have c:¬(b.toNat:Int)=43:=by simpa using n
   have d:¬(b.toNat:Int)=47:=by simpa using o
   have a:Hid (iv b=none):=by
    show _=_;unfold iv;rw [if_neg (by omega),if_neg (by omega),if_neg (by omega),if_neg (by omega),if_neg (by omega)]
   have r:(b.toNat:Int) < 48∨(57 < (b.toNat:Int)∧(b.toNat:Int) < 65)∨(90 < (b.toNat:Int)∧(b.toNat:Int) < 97)∨122 < (b.toNat:Int):=by omega
   clear e f h c d i j k
   rcases r with l | ⟨l,s⟩ | ⟨l,s⟩ | l
   all_goals
    go_enter Tryz.func294,Tryz.ntmps294;go_wp2
    go_ret2
    exact jn.none a.out rfl rfl
def stood (l:List UInt8):Nat:=if Lib.hasSuffix l [61,61] then 1 else if Lib.hasSuffix l [61] then 2 else 3
theorem gw (s:ByteArray) (w:World) (f:s.size≤maxLen):
  Calls Tryz.prog 275 #[.string s] w fun e b=>e= .returned (.int .i64 (stood s.data.toList:Nat))∧b=w:=by
 have c:Hid (∀n:Nat,stood s.data.toList=n→∀i:Int,(n:Int)=i→Ending.returned (.int .i64 i)= .returned (.int .i64 (stood s.data.toList:Nat))):=fun n h i j=>by rw [h,j]
 cases d:Lib.hasSuffix s.data.toList [61,61] with
 | true=>
  have a:Hid (stood s.data.toList=1):=by show _=_;unfold stood;rw [d];rfl
  go_enter Tryz.func275,Tryz.ntmps275;go_wp2_with (go_at_call 214;refine (Tryz.strings_HasSuffix _ _ _ f).mono ?_;rintro e b ⟨rfl,rfl⟩)
  go_ret;exact ⟨c.out _ a.out _ rfl,rfl⟩
 | false=>
  cases g:Lib.hasSuffix s.data.toList [61] with
  | true=>
   have a:Hid (stood s.data.toList=2):=by show _=_;unfold stood;rw [d,g];rfl
   go_enter Tryz.func275,Tryz.ntmps275;go_wp2_with (go_at_call 214;refine (Tryz.strings_HasSuffix _ _ _ f).mono ?_;rintro e b ⟨rfl,rfl⟩)
   go_ret;exact ⟨c.out _ a.out _ rfl,rfl⟩
  | false=>
   have a:Hid (stood s.data.toList=3):=by show _=_;unfold stood;rw [d,g];rfl
   go_enter Tryz.func275,Tryz.ntmps275;go_wp2_with (go_at_call 214;refine (Tryz.strings_HasSuffix _ _ _ f).mono ?_;rintro e b ⟨rfl,rfl⟩)
   go_ret;exact ⟨c.out _ a.out _ rfl,rfl⟩
def jY (l:List UInt8):Nat→Nat
 | 0=>0
 | k+1=>jY l k+(iv (l.getD k 0)).getD 0 * 2 ^ (18 - 6 * k)
theorem zG (c:UInt8):(iv c).getD 0 < 64:=by
 cases h:iv c with
 | none=>decide
 | some k=>exact (dy h).1
theorem Cb (l:List UInt8) (k:Nat) (h:k≤4):∃m,jY l k=m * 2 ^ (24 - 6 * k)∧jY l k < 16777216:=by
 have b:=zG (l.getD 0 0);have c:=zG (l.getD 1 0);have d:=zG (l.getD 2 0);have e:=zG (l.getD 3 0);have a:k=0∨k=1∨k=2∨k=3∨k=4:=by omega
 rcases a with rfl | rfl | rfl | rfl | rfl
 ·exact ⟨0,by simp [jY],by simp [jY]⟩
 ·refine ⟨(iv (l.getD 0 0)).getD 0,?_,?_⟩ <;> simp only [jY] <;> omega
 ·refine ⟨(iv (l.getD 0 0)).getD 0 * 64+(iv (l.getD 1 0)).getD 0,?_,?_⟩ <;> simp only [jY] <;> omega
 ·refine ⟨((iv (l.getD 0 0)).getD 0 * 64+(iv (l.getD 1 0)).getD 0) * 64+(iv (l.getD 2 0)).getD 0,?_,?_⟩ <;> simp only [jY] <;> omega
 ·refine ⟨jY l 4,by omega,?_⟩
  simp only [jY];omega
theorem J3 (m q k:Nat) (b:q < 64) (f:k≤3) (d:m * 2 ^ (24 - 6 * k) < 16777216):
  bits BinOp.or IntKind.u32 ((m * 2 ^ (24 - 6 * k):Nat):Int) ((q:Int) * 2 ^ (18 - 6 * k) % 4294967296)=((m * 2 ^ (24 - 6 * k)+q * 2 ^ (18 - 6 * k):Nat):Int):=by
 have a:q * 2 ^ (18 - 6 * k) < 2 ^ (24 - 6 * k):=by
  rw [show 24 - 6 * k=6+(18 - 6 * k) by omega,Nat.pow_add]
  exact Nat.mul_lt_mul_of_pos_right b (Nat.pow_pos (by decide))
 have c:q * 2 ^ (18 - 6 * k) < 16777216:=by
  refine Nat.lt_of_lt_of_le a ?_;have:(16777216:Nat)=2 ^ 24:=rfl;rw [this];exact Nat.pow_le_pow_right (by decide) (by omega)
 have e:((q:Int) * 2 ^ (18 - 6 * k) % 4294967296)=((q * 2 ^ (18 - 6 * k):Nat):Int):=by
  rw [Int.natCast_mul,Int.natCast_pow];refine Int.emod_eq_of_lt ?_ ?_
  ·have:(0:Int)≤((q * 2 ^ (18 - 6 * k):Nat):Int):=Int.natCast_nonneg _;rw [Int.natCast_mul,Int.natCast_pow] at this;exact this
  ·have:((q * 2 ^ (18 - 6 * k):Nat):Int) < 4294967296:=by omega
   rw [Int.natCast_mul,Int.natCast_pow] at this;exact this
 rw [e,u32_or_nat _ _ (by omega) (by omega)]
 congr 1
 rw [←Nat.shiftLeft_eq m,Nat.shiftLeft_add_eq_or_of_lt a]
def kq (l:List UInt8) (w:World) (e:Ending) (w':World):Prop:=
 (if l.all (fun c=>(iv c).isSome) then e= .returned (.tuple #[.int .u32 (jY l l.length:Nat),.bool true]) else e= .returned (.tuple #[.int .u32 0,.bool false]))∧w'=w
theorem kq.yes {l:List UInt8} {w:World} {e:Ending} {a:World} (h:l.all (fun c=>(iv c).isSome)=true) (b:e= .returned (.tuple #[.int .u32 (jY l l.length:Nat),.bool true])) (d:a=w):kq l w e a:=⟨by rw [h];exact b,d⟩
theorem kq.no {l:List UInt8} {w:World} {e:Ending} {a:World} (h:l.all (fun c=>(iv c).isSome)=false) (b:e= .returned (.tuple #[.int .u32 0,.bool false])) (d:a=w):kq l w e a:=⟨by rw [h];exact b,d⟩
theorem mC (s:ByteArray) (w:World) (B:s.size≤4):
  Calls Tryz.prog 276 #[.string s] w (kq s.data.toList w):=by
 go_enter Tryz.func276,Tryz.ntmps276;go_wp2
 go_loop [4,10] (fun v i=>∃k V:Nat,k≤s.size∧i= .int .i64 k∧v= .int .u32 V∧Hid (jY s.data.toList k=V)∧Hid (∀j:Nat,j < k→(iv (s.data.toList.getD j 0)).isSome=true)) (fun _ i=>s.size - (intOf i).toNat)
 case atStart=>exact ⟨0,0,Nat.zero_le _,rfl,rfl,rfl,fun j r=>by omega⟩
 case round=>
  obtain ⟨k,V,z,rfl,rfl,f,l⟩:=hrel
  by_cases d:k < s.size
  ·have g:Hid (s.data.toList.getD k 0=s[k]):=pN s k d;obtain ⟨o,t⟩:∃o,iv s[k]=o:=⟨_,rfl⟩;have a:=Lib.hid t;clear t
   have u:(V:Int) < 16777216:=by
    obtain ⟨_,_,h⟩:=Cb s.data.toList k (by omega);rw [f.out] at h;omega
   have y:(k:Int)≤3:=by omega
   go_wp2_with fail
   refine (sG _ _).mono ?_;rintro e C ⟨rfl,rfl⟩;rw [a.out]
   cases o with
   | none=>
    simp only [Option.getD_none,Option.isSome_none];go_wp2_with fail
    go_ret2
    exact kq.no (qH (p:=fun c=>(iv c).isSome) (k:=k) (by rw [aJ];exact d) (by rw [g.out,a.out];rfl)) rfl rfl
   | some q=>
    have A:(q:Int) < 64:=by have:=(dy a.out).1;omega
    simp only [Option.getD_some,Option.isSome_some];go_wp2_with fail
    refine ⟨⟨k+1,jY s.data.toList (k+1),by omega,by go_num,?_,rfl,qj (p:=fun c=>(iv c).isSome) l.out g.out (by rw [a.out];rfl)⟩,by simp [intOf];omega⟩
    obtain ⟨m,n,x⟩:=Cb s.data.toList k (by omega);rw [jY,g.out,a.out,Option.getD_some,←f.out,n,J3 m q k (by omega) (by omega) (by rw [←n];exact x)]
  ·have b:Hid (k=s.data.toList.length):=by
    show _=_;rw [aJ];omega
   go_wp2
   go_ret2
   exact kq.yes (yx (p:=fun c=>(iv c).isSome) (fun j r=>l.out j (by rw [b.out];exact r))) (by rw [←b.out,f.out];rfl) rfl
def fi (o:Option (List UInt8)) (w:World) (e:Ending) (w':World):Prop:=
 (match o with | some g=>e= .returned (.tuple #[.string ⟨g.toArray⟩,.bool true]) | none=>e= .returned (.tuple #[.string ⟨#[]⟩,.bool false]))∧Below w.heap.size w w'
theorem fi.yes {o:Option (List UInt8)} {w:World} {e:Ending} {a:World} (g:List UInt8) (h:o=some g) (b:e= .returned (.tuple #[.string ⟨g.toArray⟩,.bool true])) (c:Below w.heap.size w a):fi o w e a:=by subst h;exact ⟨b,c⟩
theorem fi.no {o:Option (List UInt8)} {w:World} {e:Ending} {a:World} (h:o=none) (b:e= .returned (.tuple #[.string ⟨#[]⟩,.bool false])) (c:Below w.heap.size w a):fi o w e a:=by subst h;exact ⟨b,c⟩
theorem pf (w:World) (W n a:Nat) (e:W < 16777216) (f:n≤3):
  (convert 114 9 (.slice (some ⟨w.heap.size,0,none⟩) n a)).run Tryz.prog (w.alloc (.cells #[.int .u8 ((W:Int) / 65536),.int .u8 ((W:Int) / 256 % 256),.int .u8 ((W:Int) % 256)] 300))= .ok (.string ⟨([sj (W / 65536),sj (W / 256),sj W].take n).toArray⟩) (w.alloc (.cells #[.int .u8 ((W:Int) / 65536),.int .u8 ((W:Int) / 256 % 256),.int .u8 ((W:Int) % 256)] 300)):=by
 refine oP _ w.heap.size a n _ (by simp;omega) (fun j d=>?_);have c:∀i:Nat,(w.alloc (.cells #[.int .u8 ((W:Int) / 65536),.int .u8 ((W:Int) / 256 % 256),.int .u8 ((W:Int) % 256)] 300)).cell? ⟨w.heap.size,i,none⟩=#[Value.int .u8 ((W:Int) / 65536),.int .u8 ((W:Int) / 256 % 256),.int .u8 ((W:Int) % 256)][i]? :=fun i=>World.cell?_alloc_mark w _ 300 (0,0) i;rw [c j,List.getD_eq_getElem?_getD,List.getElem?_take_of_lt d];have b:j=0∨j=1∨j=2:=by omega
 rcases b with rfl | rfl | rfl
 ·show some (Value.int .u8 ((W:Int) / 65536))=some (.int .u8 ((sj (W / 65536)).toNat:Int));rw [fk,show (((W / 65536) % 256:Nat):Int)=(W:Int) / 65536 by omega]
 ·show some (Value.int .u8 ((W:Int) / 256 % 256))=some (.int .u8 ((sj (W / 256)).toNat:Int));rw [fk,show (((W / 256) % 256:Nat):Int)=(W:Int) / 256 % 256 by omega]
 ·show some (Value.int .u8 ((W:Int) % 256))=some (.int .u8 ((sj W).toNat:Int));rw [fk,show ((W % 256:Nat):Int)=(W:Int) % 256 by omega]
theorem wj {s:ByteArray} {w:World} (d:s.size≤4) (W:Nat) (h:s.data.toList.all (fun c=>(iv c).isSome)=true) (b:jY s.data.toList s.data.toList.length=W):
  Calls Tryz.prog 276 #[.string s] w fun e f=>e= .returned (.tuple #[.int .u32 W,.bool true])∧f=w:=by
 refine (mC s w d).mono ?_;rintro e g ⟨a,rfl⟩;rw [h] at a;exact ⟨by rw [←b];exact a,rfl⟩
theorem zI {s:ByteArray} {w:World} (b:s.size≤4) (h:s.data.toList.all (fun c=>(iv c).isSome)=false):
  Calls Tryz.prog 276 #[.string s] w fun e d=>e= .returned (.tuple #[.int .u32 0,.bool false])∧d=w:=by
 refine (mC s w b).mono ?_;rintro e f ⟨a,rfl⟩;rw [h] at a;exact ⟨a,rfl⟩
theorem uf (s:ByteArray) (w:World) (d:s.size=4) (a:stood s.data.toList=1) (b:(s.extract 0 2).data.toList.all (fun c=>(iv c).isSome)=false):
  Calls Tryz.prog 247 #[.string s] w (fi none w):=by
 have f:=Lib.hid b;clear b;have i:Hid ((s.extract 0 2).size≤4):=by show _≤_;simp;omega
 have h:=Lib.hid a;clear a;have g:=Lib.hid d;have j:(4:Int)≤(s.size:Int):=by omega
 clear d;go_enter Tryz.func247,Tryz.ntmps247;go_wp2_with fail
 refine (gw s _ (by unfold maxLen;have:=g.out;omega)).mono ?_;rintro e k ⟨rfl,rfl⟩;rw [h.out];go_wp2_with fail
 refine (zI (s:=s.extract 0 2) i.out f.out).mono ?_;rintro e l ⟨rfl,rfl⟩;go_wp2_with fail
 go_ret2
 exact fi.no rfl rfl (Below.refl _ _)
theorem AG (s:ByteArray) (w:World) (j:s.size=4) (b:stood s.data.toList=1) (g:(s.extract 0 2).data.toList.all (fun c=>(iv c).isSome)=true) (W:Nat) (k:jY (s.extract 0 2).data.toList (s.extract 0 2).data.toList.length=W) (v:W < 16777216) (o:Option (List UInt8)) (h:o=(if W / 256 % 256=0∧W % 256=0 then some [sj (W / 65536)] else none)):
  Calls Tryz.prog 247 #[.string s] w (fi o w):=by
 have d:=Lib.hid h;have n:=Lib.hid g;have r:=Lib.hid k;clear g k h;have u:Hid ((s.extract 0 2).size≤4):=by show _≤_;simp;omega
 have f:=pf w W 1 3 v (by decide);have q:=Lib.hid b;clear b;have p:=Lib.hid j;have x:(4:Int)≤(s.size:Int):=by omega
 clear j;go_enter Tryz.func247,Tryz.ntmps247;go_wp2_with fail
 refine (gw s _ (by unfold maxLen;have:=p.out;omega)).mono ?_;rintro e y ⟨rfl,rfl⟩;rw [q.out];go_wp2_with fail
 refine (wj (s:=s.extract 0 2) u.out W n.out r.out).mono ?_;rintro e z ⟨rfl,rfl⟩
 cases l:(((W:Int) / 256 % 256) != 0) with
 | true=>
  have a:Hid (¬(W / 256 % 256=0∧W % 256=0)):=by
   show ¬_;have:¬(W:Int) / 256 % 256=0:=by simpa using l
   omega
  go_wp2_with fail
  go_loop [34] (fun i=>i= .int .i64 0) (fun i=>1 - (intOf i).toNat)
  case atStart=>rfl
  case round=>
   subst hrel;go_wp2
   go_ret2
   exact fi.no (d.out.trans (if_neg a.out)) rfl ((Below.refl _ _).alloc (Nat.le_refl _) _)
 | false=>
  have t:Hid ((W:Int) / 256 % 256=0):=by
   show (W:Int) / 256 % 256=0;simpa using l
  cases m:(((W:Int) % 256) != 0) with
  | true=>
   have a:Hid (¬(W / 256 % 256=0∧W % 256=0)):=by
    show ¬_;have:¬(W:Int) % 256=0:=by simpa using m
    omega
   go_wp2_with fail
   go_loop [34] (fun i=>i= .int .i64 0∨i= .int .i64 1) (fun i=>2 - (intOf i).toNat)
   case atStart=>exact Or.inl rfl
   case round=>
    rcases hrel with rfl | rfl
    ·go_wp2
     go_round
     case rel=>exact Or.inr rfl
     case measure=>decide
    ·go_wp2
     go_ret2
     exact fi.no (d.out.trans (if_neg a.out)) rfl ((Below.refl _ _).alloc (Nat.le_refl _) _)
  | false=>
   have a:Hid (W / 256 % 256=0∧W % 256=0):=by
    show _∧_;have:(W:Int) % 256=0:=by simpa using m
    have:=t.out;omega
   go_wp2_with fail
   go_loop [34] (fun i=>i= .int .i64 0∨i= .int .i64 1∨i= .int .i64 2) (fun i=>2 - (intOf i).toNat)
   case atStart=>exact Or.inl rfl
   case round=>
    rcases hrel with rfl | rfl | rfl
    ·go_wp2
     go_round
     case rel=>exact Or.inr (Or.inl rfl)
     case measure=>decide
    ·go_wp2
     go_round
     case rel=>exact Or.inr (Or.inr rfl)
     case measure=>decide
    ·go_wp2
     go_ret2
     exact fi.yes _ (d.out.trans (if_pos a.out)) rfl ((Below.refl _ _).alloc (Nat.le_refl _) _)
theorem oU (s:ByteArray) (w:World) (d:s.size=4) (a:stood s.data.toList=2) (b:(s.extract 0 3).data.toList.all (fun c=>(iv c).isSome)=false):
  Calls Tryz.prog 247 #[.string s] w (fi none w):=by
 have f:=Lib.hid b;clear b;have i:Hid ((s.extract 0 3).size≤4):=by show _≤_;simp;omega
 have h:=Lib.hid a;clear a;have g:=Lib.hid d;have j:(4:Int)≤(s.size:Int):=by omega
 clear d;go_enter Tryz.func247,Tryz.ntmps247;go_wp2_with fail
 refine (gw s _ (by unfold maxLen;have:=g.out;omega)).mono ?_;rintro e k ⟨rfl,rfl⟩;rw [h.out];go_wp2_with fail
 refine (zI (s:=s.extract 0 3) i.out f.out).mono ?_;rintro e l ⟨rfl,rfl⟩;go_wp2_with fail
 go_ret2
 exact fi.no rfl rfl (Below.refl _ _)
theorem AH (s:ByteArray) (w:World) (j:s.size=4) (a:stood s.data.toList=2) (g:(s.extract 0 3).data.toList.all (fun c=>(iv c).isSome)=true) (W:Nat) (k:jY (s.extract 0 3).data.toList (s.extract 0 3).data.toList.length=W) (t:W < 16777216) (o:Option (List UInt8)) (h:o=(if W % 256=0 then some [sj (W / 65536),sj (W / 256)] else none)):
  Calls Tryz.prog 247 #[.string s] w (fi o w):=by
 have f:=Lib.hid h;have m:=Lib.hid g;have q:=Lib.hid k;clear g k h;have r:Hid ((s.extract 0 3).size≤4):=by show _≤_;simp;omega
 have d:=pf w W 2 3 t (by decide);have p:=Lib.hid a;clear a;have n:=Lib.hid j;have u:(4:Int)≤(s.size:Int):=by omega
 clear j;go_enter Tryz.func247,Tryz.ntmps247;go_wp2_with fail
 refine (gw s _ (by unfold maxLen;have:=n.out;omega)).mono ?_;rintro e v ⟨rfl,rfl⟩;rw [p.out];go_wp2_with fail
 refine (wj (s:=s.extract 0 3) r.out W m.out q.out).mono ?_;rintro e x ⟨rfl,rfl⟩
 cases l:(((W:Int) % 256) != 0) with
 | true=>
  have b:Hid (¬W % 256=0):=by
   show ¬_;have:¬(W:Int) % 256=0:=by simpa using l
   omega
  go_wp2_with fail
  go_loop [34] (fun i=>i= .int .i64 0) (fun i=>1 - (intOf i).toNat)
  case atStart=>rfl
  case round=>
   subst hrel;go_wp2
   go_ret2
   exact fi.no (f.out.trans (if_neg b.out)) rfl ((Below.refl _ _).alloc (Nat.le_refl _) _)
 | false=>
  have b:Hid (W % 256=0):=by
   show W % 256=0;have:(W:Int) % 256=0:=by simpa using l
   omega
  go_wp2_with fail
  go_loop [34] (fun i=>i= .int .i64 0∨i= .int .i64 1) (fun i=>1 - (intOf i).toNat)
  case atStart=>exact Or.inl rfl
  case round=>
   rcases hrel with rfl | rfl
   ·go_wp2
    go_round
    case rel=>exact Or.inr rfl
    case measure=>decide
   ·go_wp2
    go_ret2
    exact fi.yes _ (f.out.trans (if_pos b.out)) rfl ((Below.refl _ _).alloc (Nat.le_refl _) _)
theorem lN (s:ByteArray) (w:World) (d:s.size=4) (a:stood s.data.toList=3) (b:(s.extract 0 4).data.toList.all (fun c=>(iv c).isSome)=false):
  Calls Tryz.prog 247 #[.string s] w (fi none w):=by
 have f:=Lib.hid b;clear b;have i:Hid ((s.extract 0 4).size≤4):=by show _≤_;simp;omega
 have h:=Lib.hid a;clear a;have g:=Lib.hid d;have j:(4:Int)≤(s.size:Int):=by omega
 clear d;go_enter Tryz.func247,Tryz.ntmps247;go_wp2_with fail
 refine (gw s _ (by unfold maxLen;have:=g.out;omega)).mono ?_;rintro e k ⟨rfl,rfl⟩;rw [h.out];go_wp2_with fail
 refine (zI (s:=s.extract 0 4) i.out f.out).mono ?_;rintro e l ⟨rfl,rfl⟩;go_wp2_with fail
 go_ret2
 exact fi.no rfl rfl (Below.refl _ _)
theorem AI (s:ByteArray) (w:World) (g:s.size=4) (a:stood s.data.toList=3) (d:(s.extract 0 4).data.toList.all (fun c=>(iv c).isSome)=true) (W:Nat) (h:jY (s.extract 0 4).data.toList (s.extract 0 4).data.toList.length=W) (q:W < 16777216) (o:Option (List UInt8)) (f:o=(some [sj (W / 65536),sj (W / 256),sj W])):
  Calls Tryz.prog 247 #[.string s] w (fi o w):=by
 have k:=Lib.hid f;have j:=Lib.hid d;have n:=Lib.hid h;clear d h f;have p:Hid ((s.extract 0 4).size≤4):=by show _≤_;simp;omega
 have b:=pf w W 3 3 q (by decide);have m:=Lib.hid a;clear a;have l:=Lib.hid g;have r:(4:Int)≤(s.size:Int):=by omega
 clear g;go_enter Tryz.func247,Tryz.ntmps247;go_wp2_with fail
 refine (gw s _ (by unfold maxLen;have:=l.out;omega)).mono ?_;rintro e t ⟨rfl,rfl⟩;rw [m.out];go_wp2_with fail
 refine (wj (s:=s.extract 0 4) p.out W j.out n.out).mono ?_;rintro e u ⟨rfl,rfl⟩;go_wp2_with fail
 go_loop [34] (fun i=>i= .int .i64 0) (fun _=>0)
 case atStart=>rfl
 case round=>
  subst hrel;go_wp2
  go_ret2
  exact fi.yes _ k.out rfl ((Below.refl _ _).alloc (Nat.le_refl _) _)
theorem J5 (a b c d:UInt8):stood [a,b,c,d]=if d=61 then (if c=61 then 1 else 2) else 3:=by
 have f:Lib.hasSuffix [a,b,c,d] [61,61]=(d == 61 && c == 61):=by
  simp only [Lib.hasSuffix,List.isSuffixOf,List.reverse_cons,List.reverse_nil,List.nil_append,List.cons_append,List.isPrefixOf,Bool.and_true];rw [BEq.comm (a:=(61:UInt8)) (b:=d),BEq.comm (a:=(61:UInt8)) (b:=c)]
 have g:Lib.hasSuffix [a,b,c,d] [61]=(d == 61):=by
  simp only [Lib.hasSuffix,List.isSuffixOf,List.reverse_cons,List.reverse_nil,List.nil_append,List.cons_append,List.isPrefixOf,Bool.and_true];rw [BEq.comm (a:=(61:UInt8)) (b:=d)]
 unfold stood;rw [f,g]
 by_cases e:d=61
 ·by_cases h:c=61 <;> simp [e,h]
 ·simp [e]
theorem wZ (s:ByteArray) (a b c d:UInt8) (w:World) (h:s.data.toList=[a,b,c,d]):
  Calls Tryz.prog 247 #[.string s] w (fi (Gc a b c d) w):=by
 have j:s.size=4:=by rw [←aJ,h];rfl
 have v:(s.extract 0 2).data.toList=[a,b]:=by rw [Lib.extract_data,h];rfl
 have n:(s.extract 0 3).data.toList=[a,b,c]:=by rw [Lib.extract_data,h];rfl
 have l:(s.extract 0 4).data.toList=[a,b,c,d]:=by rw [Lib.extract_data,h];rfl
 have e:=J5 a b c d
 by_cases o:d=61
 ·rw [if_pos o] at e
  by_cases x:c=61
  ·rw [if_pos x] at e;have u:Gc a b c d=g1 a b:=by unfold Gc;rw [if_pos o,if_pos x]
   rw [u]
   cases f:iv a with
   | none=>
    have:g1 a b=none:=by unfold g1;rw [f]
    rw [this];exact uf s w j (by rw [h,e]) (by rw [v];simp [f])
   | some p=>
    cases g:iv b with
    | none=>
     have:g1 a b=none:=by unfold g1;rw [f,g]
     rw [this];exact uf s w j (by rw [h,e]) (by rw [v];simp [f,g])
    | some q=>
     have y:=(dy f).1;have z:=(dy g).1;refine AG s w j (by rw [h,e]) (by rw [v];simp [f,g]) (p * 262144+q * 4096) ?_ (by omega) _ ?_
     ·rw [v];show jY [a,b] 2=_;simp only [jY];show 0+(iv a).getD 0 * 262144+(iv b).getD 0 * 4096=_;rw [f,g];simp
     ·unfold g1;rw [f,g];simp only
      by_cases k:q % 16=0
      ·rw [if_pos k,if_pos (by omega),show (p * 262144+q * 4096) / 65536=p * 4+q / 16 by omega]
      ·rw [if_neg k,if_neg (by omega)]
  ·rw [if_neg x] at e;have u:Gc a b c d=g2 a b c:=by unfold Gc;rw [if_pos o,if_neg x]
   rw [u]
   cases f:iv a with
   | none=>
    have:g2 a b c=none:=by unfold g2;rw [f]
    rw [this];exact oU s w j (by rw [h,e]) (by rw [n];simp [f])
   | some p=>
    cases g:iv b with
    | none=>
     have:g2 a b c=none:=by unfold g2;rw [f,g]
     rw [this];exact oU s w j (by rw [h,e]) (by rw [n];simp [f,g])
    | some q=>
     cases i:iv c with
     | none=>
      have:g2 a b c=none:=by unfold g2;rw [f,g,i]
      rw [this];exact oU s w j (by rw [h,e]) (by rw [n];simp [f,g,i])
     | some r=>
      have y:=(dy f).1;have z:=(dy g).1;have A:=(dy i).1;refine AH s w j (by rw [h,e]) (by rw [n];simp [f,g,i]) (p * 262144+q * 4096+r * 64) ?_ (by omega) _ ?_
      ·rw [n];show jY [a,b,c] 3=_;simp only [jY];show 0+(iv a).getD 0 * 262144+(iv b).getD 0 * 4096+(iv c).getD 0 * 64=_;rw [f,g,i];simp
      ·unfold g2;rw [f,g,i];simp only
       by_cases k:r % 4=0
       ·rw [if_pos k,if_pos (by omega),show (p * 262144+q * 4096+r * 64) / 65536=p * 4+q / 16 by omega,Ch ((p * 262144+q * 4096+r * 64) / 256) (sj (q % 16 * 16+r / 4)) (by rw [fk];omega)]
       ·rw [if_neg k,if_neg (by omega)]
 ·rw [if_neg o] at e;have u:Gc a b c d=g3 a b c d:=by unfold Gc;rw [if_neg o]
  rw [u]
  cases f:iv a with
  | none=>
   have:g3 a b c d=none:=by unfold g3;rw [f]
   rw [this];exact lN s w j (by rw [h,e]) (by rw [l];simp [f])
  | some p=>
   cases g:iv b with
   | none=>
    have:g3 a b c d=none:=by unfold g3;rw [f,g]
    rw [this];exact lN s w j (by rw [h,e]) (by rw [l];simp [f,g])
   | some q=>
    cases i:iv c with
    | none=>
     have:g3 a b c d=none:=by unfold g3;rw [f,g,i]
     rw [this];exact lN s w j (by rw [h,e]) (by rw [l];simp [f,g,i])
    | some r=>
     cases m:iv d with
     | none=>
      have:g3 a b c d=none:=by unfold g3;rw [f,g,i,m]
      rw [this];exact lN s w j (by rw [h,e]) (by rw [l];simp [f,g,i,m])
     | some t=>
      have y:=(dy f).1;have z:=(dy g).1;have A:=(dy i).1;have B:=(dy m).1;refine AI s w j (by rw [h,e]) (by rw [l];simp [f,g,i,m]) (p * 262144+q * 4096+r * 64+t) ?_ (by omega) _ ?_
      ·rw [l];show jY [a,b,c,d] 4=_;simp only [jY];show 0+(iv a).getD 0 * 262144+(iv b).getD 0 * 4096+(iv c).getD 0 * 64+(iv d).getD 0 * 1=_;rw [f,g,i,m];simp
      ·unfold g3;rw [f,g,i,m];simp only;rw [show (p * 262144+q * 4096+r * 64+t) / 65536=p * 4+q / 16 by omega,Ch ((p * 262144+q * 4096+r * 64+t) / 256) (sj (q % 16 * 16+r / 4)) (by rw [fk];omega),Ch (p * 262144+q * 4096+r * 64+t) (sj (r % 4 * 64+t)) (by rw [fk];omega)]
theorem sM (B b:Nat) (bs:List Value) (s:ByteArray) (w:World) (h:Lib.IsBuilderF 133 5 B b bs w) (a:bs.length+s.size≤140737488355328) (c:B≤w.heap.size):
  Calls Tryz.prog 96 #[.pointer (some ⟨b,0,none⟩),.string s] w fun e d=>e= .returned (.tuple #[.int .i64 s.size,.nilIface])∧(Lib.BuilderAtF 133 5 B b (.pointer (some ⟨b,0,none⟩)) (bs++Lib.strCells s) d∧Below B w d∧Lib.OthersKept 5 (some b) w d):=
 Any.Builder_WriteString_k {Tryz.lays159 with} Tryz.Builder_Extra_159 B b bs s w h a c
theorem pB (B b:Nat) (l:List UInt8) (w:World) (h:Lib.IsBuilderF 133 5 B b (Lib.byteCells l) w) (a:B≤w.heap.size):
  Calls Tryz.prog 64 #[.pointer (some ⟨b,0,none⟩)] w fun e c=>e= .returned (.string ⟨l.toArray⟩)∧(Lib.IsBuilderF 133 5 B b (Lib.byteCells l) c∧Below B w c∧Lib.OthersKept 5 (some b) w c):=
 Any.Builder_String_any_k Tryz.lays169 Tryz.Builder_Extra_169 B b l w h a
theorem om {T e:TypeId} {B b:Nat} {p:Value} {bs:List Value} {W g:World} (h:Lib.BuilderAtF T e B b p bs W) (a:Below W.heap.size W g):Lib.BuilderAtF T e B b p bs g:=by
 have d:=h.lt;obtain ⟨i,v,l,c,f⟩:=h;exact ⟨i,v,(a.block b d).trans l,c.kept (row:=none) ⟨a.os,a.tape,a.output,a.size,fun k j _=>a.block k j⟩ (Classical.em _),f⟩
theorem sy {T e:TypeId} {B b:Nat} {bs:List Value} {W a:World} (h:Lib.IsBuilderF T e B b bs W) (c:Below W.heap.size W a):Lib.IsBuilderF T e B b bs a:=
 h.elim (fun x=> .inl (om x c)) (fun x=> .inr (om x c))
def j5 (o:Option (List UInt8)) (w:World) (e:Ending) (w':World):Prop:=
 (match o with | some g=>e= .returned (.tuple #[.string ⟨g.toArray⟩,.bool true]) | none=>e= .returned (.tuple #[.string ⟨#[]⟩,.bool false]))∧Below w.heap.size w w'
theorem j5.yes {o:Option (List UInt8)} {w:World} {e:Ending} {a:World} (g:List UInt8) (h:o=some g) (b:e= .returned (.tuple #[.string ⟨g.toArray⟩,.bool true])) (c:Below w.heap.size w a):j5 o w e a:=by subst h;exact ⟨b,c⟩
theorem j5.no {o:Option (List UInt8)} {w:World} {e:Ending} {a:World} (h:o=none) (b:e= .returned (.tuple #[.string ⟨#[]⟩,.bool false])) (c:Below w.heap.size w a):j5 o w e a:=by subst h;exact ⟨b,c⟩
def Jy (v:Value):Nat:=match v with | .string t=>t.size | _=>0
def IZ (l:List UInt8) (w:World) (s:Value) (w':World):Prop:=
 ∃(t:ByteArray) (acc:List UInt8),s= .string t∧t.size % 4=0∧acc.length+t.size≤l.length∧kv l=(kv t.data.toList).map (acc++·)∧Lib.IsBuilderF 133 5 w.heap.size w.heap.size (Lib.byteCells acc) w'∧Below w.heap.size w w'∧w.heap.size < w'.heap.size
theorem pJ:∀l:List UInt8,l.length % 4≠0→kv l=none
 | [],h=>absurd rfl h
 | [_],_=>rfl
 | [_,_],_=>rfl
 | [_,_,_],_=>rfl
 | a::b::c::d::r,h=>by
  have:=pJ r (by simp at h;omega);rw [kv]
  split
  ·rfl
  ·split
   ·rfl
   ·rw [this]
theorem Jc {a b c d:UInt8} {g:List UInt8} (h:Gc a b c d=some g):1≤g.length∧g.length≤3:=by
 unfold Gc at h
 split at h
 ·split at h
  ·have:=(Kj h).2;omega
  ·have:=(Kk h).2;omega
 ·have:=(Kl h).2;omega
theorem rR (s:ByteArray) (w:World) (hs:s.size≤140737488355328):
  Calls Tryz.prog 209 #[.string s] w (j5 (kv s.data.toList) w):=by
 obtain ⟨O,L⟩:∃O,kv s.data.toList=O:=⟨_,rfl⟩;rw [L];have I:=Lib.hid L;clear L
 cases W:(((s.size:Int) % 4) != 0) with
 | true=>
  have q:Hid (O=none):=by
   show _=_;rw [←I.out];refine pJ _ ?_;have:¬(s.size:Int) % 4=0:=by simpa using W
   rw [aJ];omega
  go_enter Tryz.func209,Tryz.ntmps209;go_wp2
  go_ret2
  exact j5.no q.out rfl (Below.refl _ _)
 | false=>
  have S:(s.size:Int) % 4=0:=by simpa using W
  have Y:Hid (s.size % 4=0):=by show s.size % 4=0;omega
  clear S;go_enter Tryz.func209,Tryz.ntmps209;go_wp2
  go_loopw [0] (fun t w'=>IZ s.data.toList w t w') (fun t _=>Jy t)
  case atStart=>exact ⟨s,[],rfl,Y.out,by rw [aJ];simp,by simp,Lib.IsBuilderF.of (Lib.fresh_isBuilder 133 5 w),(Below.refl _ _).alloc (Nat.le_refl _) _,by simp⟩
  case round=>
   obtain ⟨t,f,rfl,a4,C,l,V,k,n⟩:=hrel;rw [aJ] at C;rw [I.out] at l;have H:=Lib.hid l;have F:=Lib.hid V;clear l V
   by_cases Z:t.size=0
   ·have X:Hid (O=some f):=by
     show _=_;rw [H.out]
     have:t.data.toList=[]:=by
      rw [←List.length_eq_zero_iff,aJ];exact Z
     rw [this];simp [kv]
    have N:=Nat.le_of_lt n;go_wp2_with fail
    refine (pB _ _ f _ F.out N).mono ?_;rintro e T ⟨rfl,_,j,_⟩;go_wp2_with fail
    go_ret2
    exact j5.yes f X.out rfl (k.trans j)
   ·have h4:4≤t.size:=by omega
    obtain ⟨a,b,c,d,r,B⟩:∃a b c d r,t.data.toList=a::b::c::d::r:=by
     have v:4≤t.data.toList.length:=by rw [aJ];exact h4
     match h:t.data.toList,v with
     | a::b::c::d::r,_=>exact ⟨a,b,c,d,r,rfl⟩
    have P:Hid ((t.extract 0 4).data.toList=[a,b,c,d]):=by
     show _=_;rw [Lib.extract_data,B];rfl
    have m:Hid ((t.extract 4 t.size).data.toList=r):=by
     show _=_;rw [Lib.extract_to_end,B];rfl
    have D:r.length+4=t.size:=by
     rw [←aJ t,B];rfl
    have p:Hid (O=(match Gc a b c d with | none=>none | some g=>if g.length < 3∧r≠[] then none else match kv r with | none=>none | some y=>some (g++y):Option (List UInt8)).map (f++·)):=by
     show _=_;rw [H.out,B];rfl
    clear B H;obtain ⟨J,A⟩:∃J,Gc a b c d=J:=⟨_,rfl⟩;have z:=Lib.hid A;clear A;have a0:(4:Int)≤(t.size:Int):=by omega
    go_wp2_with fail
    refine (wZ (t.extract 0 4) a b c d _ P.out).mono ?_;rw [z.out];rintro e T ⟨E,j⟩
    cases J with
    | none=>
     simp only at E;subst E;have q:Hid (O=none):=by show _=_;rw [p.out,z.out];rfl
     go_wp2_with fail
     go_ret2
     exact j5.no q.out rfl (k.trans (j.mono (Nat.le_of_lt n)))
    | some g=>
     simp only at E;subst E;have a2:=Jc z.out;have Q:(⟨g.toArray⟩:ByteArray).size=g.length:=by simp [ByteArray.size]
     by_cases i:g.length < 3∧r≠[]
     ·have q:Hid (O=none):=by
       show _=_;rw [p.out,z.out];simp only;rw [if_pos i];rfl
      have a1:((g.length:Int) < 3):=by omega
      have a3:(0:Int) < (t.size:Int) - 4:=by
       have:1≤r.length:=by
        cases r with
        | nil=>exact absurd rfl i.2
        | cons _ _=>simp
       omega
      go_wp2_with fail
      go_ret2
      exact j5.no q.out rfl (k.trans (j.mono (Nat.le_of_lt n)))
     ·have q:Hid (O=(kv r).map ((f++g)++·)):=by
       show _=_;rw [p.out,z.out];simp only;rw [if_neg i]
       cases kv r with
       | none=>rfl
       | some y=>simp
      have u:(3:Int)≤(g.length:Int)∨((g.length:Int) < 3∧¬0 < t.size - 4):=by
       by_cases U:3≤g.length
       ·left;omega
       ·right
        refine ⟨by omega,?_⟩
        have:r=[]:=by
         cases r with
         | nil=>rfl
         | cons x y=>exact absurd ⟨by omega,by simp⟩ i
        rw [this] at D;simp at D;omega
      have G:=Lib.hid (sy F.out j);have a5:wr.heap.size≤T.heap.size:=j.size
      have R:Hid ((Lib.byteCells f).length+(⟨g.toArray⟩:ByteArray).size≤140737488355328):=by
       show _≤_;rw [Lib.byteCells_length,Q];omega
      have K:w.heap.size≤T.heap.size:=by omega
      clear i F
      rcases u with U | ⟨U,hz⟩
      all_goals
       go_wp2_with fail
       refine (sM _ _ (Lib.byteCells f) ⟨g.toArray⟩ _ G.out R.out K).mono ?_;rintro e w2 ⟨rfl,M,o,_⟩;go_wp2_with fail
       refine ⟨⟨t.extract 4 t.size,f++g,rfl,?_,?_,?_,?_,?_,?_⟩,?_⟩
       ·rw [←aJ,m.out];omega
       ·rw [←aJ (t.extract 4 t.size),m.out,aJ];simp;omega
       ·rw [I.out,m.out,q.out]
       ·refine Or.inr ?_;have:Lib.byteCells (f++g)=Lib.byteCells f++Lib.strCells ⟨g.toArray⟩:=by simp [Lib.byteCells,Lib.strCells]
        rw [this];exact M
       ·exact (k.trans (j.mono (Nat.le_of_lt n))).trans o
       ·have:=o.size;omega
       ·show (t.extract 4 t.size).size < t.size;rw [←aJ,m.out];omega
theorem kO (c:UInt8):(65≤c.toNat∧c.toNat≤90∧(Lib.lowerB c).toNat=c.toNat+32)∨(¬(65≤c.toNat∧c.toNat≤90)∧Lib.lowerB c=c):=by
 unfold Lib.lowerB Lib.isUpperB
 by_cases h:65≤c.toNat∧c.toNat≤90
 ·left
  have a:(decide ((65:UInt8)≤c) && decide (c≤90))=true:=by
   simp only [Bool.and_eq_true,decide_eq_true_eq,UInt8.le_iff_toNat_le,UInt8.reduceToNat];exact h
  rw [if_pos a,UInt8.toNat_add];simp only [UInt8.reduceToNat];omega
 ·right
  have a:¬(decide ((65:UInt8)≤c) && decide (c≤90))=true:=by
   simp only [Bool.and_eq_true,decide_eq_true_eq,UInt8.le_iff_toNat_le,UInt8.reduceToNat];exact h
  rw [if_neg a];exact ⟨h,rfl⟩
theorem Ho (c:UInt8):Gk (Lib.lowerB c)=Gk c:=by
 rcases kO c with ⟨b,d,a⟩ | ⟨_,h⟩
 ·unfold Gk Fj ix;rw [a];rw [Bool.eq_iff_iff];simp only [Bool.or_eq_true,Bool.and_eq_true,decide_eq_true_eq];omega
 ·rw [h]
theorem uI (c d:UInt8) (j:d.toNat < 65):(Lib.lowerB c == d)=(c == d):=by
 rcases kO c with ⟨a,i,b⟩ | ⟨_,h⟩
 ·have f:(Lib.lowerB c == d)=false:=by rw [beq_eq_false_iff_ne];intro e;rw [e] at b;omega
  have g:(c == d)=false:=by rw [beq_eq_false_iff_ne];intro e;rw [e] at a;omega
  rw [f,g]
 ·rw [h]
theorem C8 (c:UInt8):Lib.lowerB (Lib.lowerB c)=Lib.lowerB c:=by
 rcases kO c with ⟨a,b,d⟩ | ⟨_,h⟩
 ·rcases kO (Lib.lowerB c) with ⟨g1,g2,_⟩ | ⟨_,g⟩
  ·omega
  ·exact g
 ·rw [h,h]
theorem Bc (l:List UInt8):Lib.toLowerA (Lib.toLowerA l)=Lib.toLowerA l:=by
 unfold Lib.toLowerA;rw [List.map_map];apply List.map_congr_left;intro c _;exact C8 c
theorem uH (l:List UInt8):(Lib.toLowerA l).length=l.length:=by simp [Lib.toLowerA]
theorem rK (l:List UInt8) (i:Nat) (d:UInt8) (a:d.toNat < 65) (_:d≠0):((Lib.toLowerA l).getD i 0 == d)=(l.getD i 0 == d):=by
 unfold Lib.toLowerA;rw [List.getD_eq_getElem?_getD,List.getD_eq_getElem?_getD,List.getElem?_map]
 cases l[i]? with
 | none=>rfl
 | some c=>exact uI c d a
theorem CS (l:List UInt8):ux (Lib.toLowerA l)=ux l:=by
 unfold ux;rw [uH,rK l 0 45 (by decide) (by decide),rK l (l.length - 1) 45 (by decide) (by decide)]
 congr 1
 unfold Lib.toLowerA;rw [List.all_map]
 congr 1
 funext c
 simp only [Function.comp];rw [Ho,uI c 45 (by decide)]
theorem FF (c:UInt8) (l:List UInt8):du c l≠[]:=by
 cases l with
 | nil=>simp [du]
 | cons b r=>unfold du;split <;> simp
theorem qo:∀l:List UInt8,du 46 (Lib.toLowerA l)=(du 46 l).map Lib.toLowerA
 | []=>rfl
 | b::r=>by
  have c:=qo r;have e:Lib.toLowerA (b::r)=Lib.lowerB b::Lib.toLowerA r:=rfl
  have a:Lib.lowerB b=46 ↔ b=46:=by
   have:=uI b 46 (by decide);rw [Bool.eq_iff_iff,beq_iff_eq,beq_iff_eq] at this;exact this
  rw [e];unfold du
  by_cases h:b=46
  ·rw [if_pos (a.2 h),if_pos h,c];rfl
  ·rw [if_neg (fun x=>h (a.1 x)),if_neg h,c];obtain ⟨p,f,d⟩:=List.exists_cons_of_ne_nil (FF 46 r);rw [d];rfl
theorem CB (l:List UInt8):Az (Lib.toLowerA l)=Az l:=by
 unfold Az;rw [qo,uH,List.all_map]
 congr 1
 ·congr 2
  cases l <;> rfl
 ·congr 1
  funext p
  exact CS p
theorem JV {l x:List UInt8} (c:∀a∈x,a≠64):cz 64 (x++64::l)=(x,l,true):=by
 induction x with
 | nil=>simp [cz]
 | cons a x ih=>
  have d:=c a (List.mem_cons_self ..);have:=ih (fun b e=>c b (List.mem_cons_of_mem _ e));simp only [List.cons_append];unfold cz;rw [this];simp [d]
theorem qI {l:List UInt8} (h:(jb l).2=true):dH (dY l)=true:=by
 have g:dY l=(fq l).1++64::(fq l).2.1:=by unfold dY;rw [h];rfl
 have d:(fq l).2.2=true:=h
 have j:p8 (cz 64 l).1=true∧jj (cz 64 l).2.1=true∧fq l=((cz 64 l).1,Lib.toLowerA (cz 64 l).2.1,true):=by
  unfold fq at d ⊢
  split at d
  ·rename_i b
   rw [Bool.and_eq_true] at b;exact ⟨b.1,b.2,by rw [if_pos (by rw [b.1,b.2];rfl)]⟩
  ·cases d
 obtain ⟨c,m,i⟩:=j
 have f:∀a∈(cz 64 l).1,a≠64:=by
  intro a n e;subst e;unfold p8 at c;rw [Bool.and_eq_true] at c;have:=List.all_eq_true.1 c.2 64 n
  revert this
  decide
 have k:fq (dY l)=((cz 64 l).1,Lib.toLowerA (cz 64 l).2.1,true):=by
  rw [g,i];simp only;unfold fq;rw [JV f];simp only;rw [c,yU,CB,←yU,m,Bc];rfl
 unfold dH jb;rw [k,g,i];simp
end Go.Proofs.YtofpegbpgkkgkaaGreatDoor
