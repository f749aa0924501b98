import Derived.Lib.IndexMore
import Derived.Lib.IndexLaws
import Derived.Lib.IndexAny
import Derived.Lib.Split
import Derived.Lib.SplitLaws
import Derived.Lib.Case
import Derived.WalkKit
import Derived.WalkSpells
import Derived.WalkLawsBesides
import Derived.Lib.Strings
import Derived.Lib.IndexBytes
import Derived.Test.YtofpegbpgkkgkaaGreatDoorS03
import Derived.Laws.BitsAllLaws
import Derived.Deep.QuietTactic
import Derived.BigQuiet
import Derived.Deep.RegionWith
import Derived.Laws.BitsLemmas
import Derived.Laws.IdiomStrings
import Derived.Laws.MakeOwn
import Derived.Lib.ConvBytes
import Derived.Lib.UnsafeStr
import Derived.Deep.RegionHeld3
import Derived.Maps.AppendAt
import Derived.OwnWalk
import Derived.Maps.OwnSet
import Derived.WalkArith
import Derived.Laws.CopyRow
import Derived.Lib.SliceRun
import Derived.Deep.RegionLaw
namespace Go.Proofs.YtofpegbpgkkgkaaGreatDoor
set_option maxHeartbeats 8000000
set_option maxRecDepth 1000000
open Go
def Fj (c:Int):Bool:=(decide (97≤c) && decide (c≤122)) || (decide (65≤c) && decide (c≤90))
def ix (c:Int):Bool:=decide (48≤c) && decide (c≤57)
def Gk (c:UInt8):Bool:=Fj c.toNat || ix c.toNat
def xU (l m:List UInt8):Bool:=l.all fun c=>Gk c || !decide (Lib.indexByte m c < 0)
def pX (l:List UInt8):Bool:=decide (1≤l.length) && decide (l.length≤20) && !Lib.hasPrefix l [45] && !Lib.hasSuffix l [45] && xU l [45]
def p8 (l:List UInt8):Bool:=decide (1≤l.length) && decide (l.length≤20) && !Lib.hasPrefix l [46] && !Lib.hasSuffix l [46] && !Lib.contains l [46,46] && xU l [45,95,43,46]
def cz (c:UInt8):List UInt8→List UInt8×List UInt8×Bool
 | []=>([],[],false)
 | b::r=>if b=c then ([],r,true) else (b::(cz c r).1,(cz c r).2.1,(cz c r).2.2)
def du (c:UInt8):List UInt8→List (List UInt8)
 | []=>[[]]
 | b::r=>if b=c then []::du c r else (b::(du c r).headD [])::(du c r).tail
def jj (l:List UInt8):Bool:=decide (l.length≤40) && (du 46 l).all pX
def ux (l:List UInt8):Bool:=decide (1≤l.length) && decide (l.length≤20) && !(l.getD 0 0 == 45) && !(l.getD (l.length - 1) 0 == 45) && l.all fun c=>Gk c || c == 45
theorem ot (l:List UInt8) (c:UInt8) (h:1≤l.length):Lib.hasPrefix l [c]=(l.getD 0 0 == c):=by
 cases l with
 | nil=>simp at h
 | cons b r=>
  rw [Bool.eq_iff_iff];simp [Lib.hasPrefix,List.isPrefixOf];exact eq_comm
theorem wG (l:List UInt8) (c:UInt8) (h:1≤l.length):Lib.hasSuffix l [c]=(l.getD (l.length - 1) 0 == c):=by
 rw [Lib.hasSuffix,List.isSuffixOf];have a:1≤l.reverse.length:=by simpa using h
 have:=ot l.reverse c a;rw [Lib.hasPrefix] at this;simp only [List.reverse_cons,List.reverse_nil,List.nil_append];rw [this]
 congr 1
 rw [List.getD_eq_getElem?_getD,List.getD_eq_getElem?_getD,List.getElem?_reverse (show 0 < l.length by omega)];simp
theorem wI (m:List UInt8) (c:UInt8):(!decide (Lib.indexByte m c < 0))=m.contains c:=by
 rw [Lib.contains_iff_indexByte];have:=Lib.indexByte_ge m c
 by_cases h:Lib.indexByte m c < 0
 ·have a:¬0≤Lib.indexByte m c:=by omega
  simp [h,a]
 ·have a:0≤Lib.indexByte m c:=by omega
  simp [h,a]
theorem Ek (l:List UInt8):pX l=ux l:=by
 unfold pX ux
 by_cases h:1≤l.length
 ·rw [ot l 45 h,wG l 45 h]
  congr 1
  unfold xU
  congr 1
  funext c
  rw [wI,Bool.eq_iff_iff];simp
 ·simp [h]
theorem lL (c:UInt8):∀l:List UInt8,(cz c l).2.2=true→l=(cz c l).1++c::(cz c l).2.1∧du c l=(cz c l).1::du c (cz c l).2.1∧Lib.indexByte l c=((cz c l).1.length:Int)
 | [],h=>by simp [cz] at h
 | b::r,h=>by
  by_cases a:b=c
  ·subst a;simp [cz,du,Lib.indexByte]
  ·have d:(b == c)=false:=by simpa using a
   have i:(cz c r).2.2=true:=by simpa [cz,a] using h
   obtain ⟨e,f,g⟩:=lL c r i;refine ⟨?_,?_,?_⟩
   ·simp only [cz,a,if_false,List.cons_append];rw [←e]
   ·simp only [cz,du,a,if_false];rw [f];rfl
   ·simp only [cz,a,if_false,Lib.indexByte,d,Bool.false_eq_true];rw [g];have:(((cz c r).1.length:Int) == -1)=false:=by rw [beq_eq_false_iff_ne];omega
    rw [this];simp
theorem lu (c:UInt8):∀l:List UInt8,(cz c l).2.2=false→cz c l=(l,[],false)∧du c l=[l]∧Lib.indexByte l c= -1
 | [],h=>by simp [cz,du,Lib.indexByte]
 | b::r,h=>by
  by_cases a:b=c
  ·subst a;simp [cz] at h
  ·have d:(b == c)=false:=by simpa using a
   have i:(cz c r).2.2=false:=by simpa [cz,a] using h
   obtain ⟨e,f,g⟩:=lu c r i;refine ⟨?_,?_,?_⟩
   ·simp only [cz,a,if_false];rw [e]
   ·simp only [du,a,if_false];rw [f];rfl
   ·simp only [Lib.indexByte,d,Bool.false_eq_true,if_false];rw [g];rfl
theorem yS (c:UInt8):∀(l:List UInt8) (i:Nat),l[i]? =some c→(∀j:Nat,j < i→l[j]? ≠some c)→cz c l=(l.take i,l.drop (i+1),true)
 | [],i,h,_=>by simp at h
 | b::r,0,h,_=>by
  have:b=c:=by simpa using h
  simp [cz,this]
 | b::r,i+1,h,hn=>by
  have a:b≠c:=by simpa using hn 0 (by omega)
  have d:=yS c r i (by simpa using h) (fun j e=>by simpa using hn (j+1) (by omega));simp only [cz,a,if_false];rw [d];simp
theorem sW (c:UInt8):∀(l:List UInt8),(∀j:Nat,l[j]? ≠some c)→cz c l=(l,[],false)
 | [],_=>rfl
 | b::r,hn=>by
  have a:b≠c:=by simpa using hn 0
  have d:=sW c r (fun j=>by simpa using hn (j+1));simp only [cz,a,if_false];rw [d]
theorem GB (c:UInt8) (l:List UInt8):cz c l=if 0≤Lib.indexByte l c then (l.take (Lib.indexByte l c).toNat,l.drop ((Lib.indexByte l c).toNat+1),true) else (l,[],false):=by
 have b:=Lib.indexByte_ge l c
 by_cases h:0≤Lib.indexByte l c
 ·rw [if_pos h];obtain ⟨n,a⟩:=Int.eq_ofNat_of_zero_le h;have:=Lib.indexByte_some a;rw [a];exact yS c l n this.1 this.2
 ·rw [if_neg h];exact sW c l (Lib.indexByte_none (by omega))
theorem qy (c:UInt8):∀(k:Nat) (l:List UInt8),l.count c=k→Lib.splitK [c] 0 k l=du c l
 | 0,l,h=>by
  have v:∀j:Nat,l[j]? ≠some c:=fun j d=>by
   have:=List.mem_of_getElem? d;rw [List.count_eq_zero] at h;exact h this
  have r:(cz c l).2.2=false:=by rw [sW c l v]
  rw [(lu c l r).2.1];rfl
 | k+1,l,h=>by
  cases m:(cz c l).2.2 with
  | false=>
   have o:=(lu c l m).2.2;exfalso;have:c∈l:=List.count_pos_iff.1 (by omega);obtain ⟨j,d,e⟩:=List.mem_iff_getElem.1 this;exact Lib.indexByte_none o j (by rw [List.getElem?_eq_getElem d,e])
  | true=>
   obtain ⟨f,n,i⟩:=lL c l m
   have g:(cz c l).1.count c=0:=by
    rw [List.count_eq_zero];intro u;obtain ⟨j,d,e⟩:=List.mem_iff_getElem.1 u;refine (Lib.indexByte_some i).2 j d ?_;rw [f,List.getElem?_append_left d,List.getElem?_eq_getElem d,e]
   have t:(cz c l).2.1.count c=k:=by
    have:=h;rw [f,List.count_append,g,List.count_cons_self] at this;omega
   have y:=qy c k _ t;have s:(((cz c l).1.length:Int) == -1)=false:=by rw [beq_eq_false_iff_ne];omega
   rw [Lib.splitK,Lib.index_one,i,s,n,←y]
   have p:∀a b:List UInt8,l=a++c::b→List.take ((a.length:Int).toNat+0) l=a∧List.drop ((a.length:Int).toNat+[c].length) l=b:=by
    rintro a b rfl;have x:a.length+1 - a.length=1:=by omega
    simp [List.drop_append,x]
   obtain ⟨w,q⟩:=p _ _ f;rw [w,q];rfl
theorem Iy (l:List UInt8):Lib.split l [46]=du 46 l:=by
 rw [Lib.split,Lib.count_one];exact qy 46 _ l rfl
def Az (l:List UInt8):Bool:= !l.isEmpty && decide (l.length≤40) && (du 46 l).all ux
theorem yU (l:List UInt8):jj l=Az l:=by
 unfold jj Az;have:pX=ux:=funext Ek;rw [this]
 cases l with
 | nil=>rfl
 | cons b r=>simp
theorem oY (c:UInt8):∀(l:List UInt8) (b:UInt8),b∈l→b=c∨∃p∈du c l,b∈p
 | [],b,h=>by cases h
 | x::r,b,h=>by
  by_cases f:x=c
  ·rcases List.mem_cons.1 h with e | h
   ·left;rw [e,f]
   ·rcases oY c r b h with e | ⟨p,a,d⟩
    ·exact Or.inl e
    ·right;refine ⟨p,?_,d⟩;simp [du,f,a]
  ·simp only [du,f,if_false]
   rcases List.mem_cons.1 h with e | h
   ·right;exact ⟨_,List.mem_cons_self,by rw [e];exact List.mem_cons_self⟩
   ·rcases oY c r b h with e | ⟨p,a,d⟩
    ·exact Or.inl e
    ·right
     cases g:du c r with
     | nil=>rw [g] at a;cases a
     | cons q qs=>
      rw [g] at a
      rcases List.mem_cons.1 a with e | a
      ·subst e;exact ⟨_,List.mem_cons_self,List.mem_cons_of_mem _ d⟩
      ·exact ⟨p,List.mem_cons_of_mem _ a,d⟩
theorem Kg (c:UInt8) (h:Gk c=true):c.toNat < 128:=by
 simp only [Gk,Fj,ix,Bool.or_eq_true,Bool.and_eq_true,decide_eq_true_eq] at h;omega
theorem qK (l:List UInt8) (h:jj l=true):∀(j:Nat) (b:UInt8),l[j]? =some b→b.toNat < 128:=by
 intro j b c;rw [yU] at h;simp only [Az,Bool.and_eq_true,List.all_eq_true] at h
 rcases oY 46 l b (List.mem_of_getElem? c) with e | ⟨p,d,a⟩
 ·rw [e];decide
 ·have:=h.2 p d;simp only [ux,Bool.and_eq_true,List.all_eq_true] at this;have:=this.2 b a;rw [Bool.or_eq_true] at this
  rcases this with h | h
  ·exact Kg b h
  ·have:b=45:=by simpa using h
   rw [this];decide
theorem GC (l:List UInt8) (h:jj l=true):l.length≤40:=by
 simp only [jj,Bool.and_eq_true,decide_eq_true_eq] at h;exact h.1
theorem sX (c:UInt8) (l x y:List UInt8) (f:Bool) (h:cz c l=(x,y,f)):x.length≤l.length∧y.length≤l.length∧(f=true→y.length < l.length):=by
 cases f with
 | true=>
  have:=(lL c l (by rw [h])).1;rw [h] at this;have e:l.length=x.length+(y.length+1):=by rw [this];simp
  exact ⟨by omega,by omega,fun _=>by omega⟩
 | false=>
  obtain ⟨a,b,_⟩:=lu c l (by rw [h]);rw [a] at h;obtain ⟨rfl,rfl⟩:l=x∧[]=y:=by simpa using h
  exact ⟨Nat.le_refl _,Nat.zero_le _,fun h=>by cases h⟩
theorem qj {p:UInt8→Bool} {l:List UInt8} {k:Nat} {c:UInt8} (b:∀j:Nat,j < k→p (l.getD j 0)=true) (a:l.getD k 0=c) (h:p c=true):∀j:Nat,j < k+1→p (l.getD j 0)=true:=by
 intro j d
 by_cases e:j < k
 ·exact b j e
 ·have:j=k:=by omega
  rw [this,a];exact h
theorem yx {p:UInt8→Bool} {l:List UInt8} (h:∀j:Nat,j < l.length→p (l.getD j 0)=true):l.all p=true:=by
 rw [List.all_eq_true];intro c b;obtain ⟨i,a,e⟩:=List.mem_iff_getElem.1 b;have:=h i a;rw [List.getD_eq_getElem?_getD,List.getElem?_eq_getElem a] at this;rw [←e];exact this
theorem qH {p:UInt8→Bool} {l:List UInt8} {k:Nat} (a:k < l.length) (h:p (l.getD k 0)=false):l.all p=false:=by
 cases e:l.all p with
 | false=>rfl
 | true=>
  rw [List.all_eq_true] at e;have:=e (l.getD k 0) (by rw [List.getD_eq_getElem?_getD,List.getElem?_eq_getElem a];exact List.getElem_mem a);rw [h] at this;cases this
theorem Ha {l:List UInt8} (h:¬(1≤l.length∧l.length≤20)):ux l=false:=by
 cases e:ux l with
 | false=>rfl
 | true=>
  simp only [ux,Bool.and_eq_true,decide_eq_true_eq] at e;exact absurd ⟨e.1.1.1.1,e.1.1.1.2⟩ h
open Go.RowKit
theorem cG {a b:Bool} (h:a=b):Ending.returned (.bool a)= .returned (.bool b):=by rw [h]
theorem iG (c:Int) (w:World):Calls Tryz.prog 255 #[.int .u8 c] w fun e a=>e= .returned (.bool (Fj c || ix c))∧a=w:=by
 go_enter Tryz.func255,Tryz.ntmps255;go_wp2
 all_goals
  go_ret;exact ⟨cG (by rw [Bool.eq_iff_iff];simp [Fj,ix];omega),rfl⟩
theorem mU (s:ByteArray) (k:Nat) (h:k < s.size):s.data.toList[k]? =some s[k]:=by
 rw [List.getElem?_eq_getElem (by simpa using h)];rfl
theorem yH {a b:UInt8} {c:Int} (d:(b.toNat:Int)=c) (h:((a.toNat:Int) == c)=false):a≠b:=by
 intro e;subst e;rw [d] at h;simp at h
theorem yG {a b:UInt8} {c:Int} (d:(b.toNat:Int)=c) (h:((a.toNat:Int) == c)=true):a=b:=by
 have h:(a.toNat:Int)=c:=by simpa using h
 rw [←d] at h;exact UInt8.toNat_inj.1 (by omega)
def lC (b:UInt8) (l:List UInt8) (w:World) (e:Ending) (w':World):Prop:=
 ∃(x y:ByteArray) (f:Bool),e= .returned (.tuple #[.string x,.string y,.bool f])∧cz b l=(x.data.toList,y.data.toList,f)∧∃n,w'=w.drewN n
theorem lC.mk {b:UInt8} {l:List UInt8} {w:World} {e:Ending} {a:World} (x y:ByteArray) (f:Bool) (d:e= .returned (.tuple #[.string x,.string y,.bool f])) (c:cz b l=(x.data.toList,y.data.toList,f)) (n:Nat) (g:a=w.drewN n):lC b l w e a:=
 ⟨x,y,f,d,c,n,g⟩
def D4 (l:List UInt8) (w:World) (e:Ending) (w':World):Prop:=e= .returned (.bool (Az l))∧∃n,w'=w.drewN n
theorem D4.mk {l:List UInt8} {w:World} {e:Ending} {a:World} (b:Bool) (d:e= .returned (.bool b)) (c:Az l=b) (n:Nat) (f:a=w.drewN n):D4 l w e a:=⟨by rw [d,c],n,f⟩
theorem aJ (s:ByteArray):s.data.toList.length=s.size:=by simp
theorem pN (s:ByteArray) (k:Nat) (h:k < s.size):s.data.toList.getD k 0=s[k]:=by
 rw [List.getD_eq_getElem?_getD,mU s k h];rfl
theorem jL (m:ByteArray) (c:UInt8) (w:World):
  Calls Tryz.prog 216 #[.string m,.int .u8 (c.toNat:Int)] w fun e a=>e= .returned (.int .i64 (Lib.indexByte m.data.toList c))∧a=w:=by
 have:=Tryz.strings_IndexByte m (c.toNat:Int) w
 rwa [Int.toNat_natCast,show c.toNat.toUInt8=c from UInt8.ofNat_toNat] at this
def p9 (m:List UInt8) (c:UInt8):Bool:=Gk c || !decide (Lib.indexByte m c < 0)
theorem pQ (s m:ByteArray) (w:World) (n:s.size≤maxLen):
  Calls Tryz.prog 215 #[.string s,.string m] w fun e a=>e= .returned (.bool (xU s.data.toList m.data.toList))∧a=w:=by
 unfold maxLen at n;go_enter Tryz.func215,Tryz.ntmps215;go_wp2
 go_loop [8] (fun i=>∃k:Nat,k≤s.size∧i= .int .i64 k∧Hid (∀j:Nat,j < k→p9 m.data.toList (s.data.toList.getD j 0)=true)) (fun i=>s.size - (intOf i).toNat)
 case atStart=>exact ⟨0,Nat.zero_le _,rfl,fun j l=>by omega⟩
 case round=>
  obtain ⟨k,o,rfl,d⟩:=hrel
  by_cases c:k < s.size
  ·have g:Hid (s.data.toList.getD k 0=s[k]):=pN s k c
   cases f:(Fj ↑s[k].toNat || ix ↑s[k].toNat) with
   | true=>
    have b:Hid (p9 m.data.toList s[k]=true):=by
     show _=_;simp only [p9,Gk,f,Bool.true_or]
    go_wp2_with (go_at_call 255;refine (iG _ _).mono ?_;rintro e a ⟨rfl,rfl⟩)
    exact ⟨⟨k+1,by omega,by go_num,qj d.out g.out b.out⟩,by simp [intOf];omega⟩
   | false=>
    cases h:decide (Lib.indexByte m.data.toList s[k] < 0) with
    | true=>
     have b:Hid (p9 m.data.toList s[k]=false):=by
      show _=_;simp only [p9,Gk,f,h];rfl
     go_wp2_with (first | (go_at_call 255;refine (iG _ _).mono ?_;rintro e a ⟨rfl,rfl⟩) | (go_at_call 216;refine (jL _ _ _).mono ?_;rintro e a ⟨rfl,rfl⟩))
     go_ret;exact ⟨cG (qH (p:=p9 m.data.toList) (by rw [aJ];exact c) (by rw [g.out,b.out])).symm,rfl⟩
    | false=>
     have b:Hid (p9 m.data.toList s[k]=true):=by
      show _=_;simp only [p9,Gk,f,h];rfl
     go_wp2_with (first | (go_at_call 255;refine (iG _ _).mono ?_;rintro e a ⟨rfl,rfl⟩) | (go_at_call 216;refine (jL _ _ _).mono ?_;rintro e a ⟨rfl,rfl⟩))
     exact ⟨⟨k+1,by omega,by go_num,qj d.out g.out b.out⟩,by simp [intOf];omega⟩
  ·go_wp2
   go_ret;exact ⟨cG (yx (p:=p9 m.data.toList) (fun j l=>d.out j (by rw [aJ] at l;omega))).symm,rfl⟩
theorem rG (s:ByteArray) (w:World) (k:s.size≤maxLen):
  Calls Tryz.prog 158 #[.string s] w fun e a=>e= .returned (.bool (pX s.data.toList))∧a=w:=by
 have g:=k;unfold maxLen at k;have d:Hid (∀b,pX s.data.toList=b→Ending.returned (.bool b)= .returned (.bool (pX s.data.toList))):=fun b h=>by rw [h]
 by_cases c:1≤s.size∧s.size≤20
 ·have m:decide ((s.size:Int) < 1)=false:=by simp;omega
  have n:decide (20 < (s.size:Int))=false:=by simp;omega
  have f:Hid (pX s.data.toList=(!Lib.hasPrefix s.data.toList [45] && !Lib.hasSuffix s.data.toList [45] && xU s.data.toList [45])):=by
   show _=_;simp only [pX,aJ,decide_eq_true c.1,decide_eq_true c.2,Bool.true_and]
  clear c
  cases i:Lib.hasPrefix s.data.toList [45] with
  | true=>
   go_enter Tryz.func158,Tryz.ntmps158;go_wp2_with (go_at_call 178;refine (Tryz.strings_HasPrefix _ _ _).mono ?_;rintro e a ⟨rfl,rfl⟩)
   go_ret;exact ⟨d.out _ (by rw [f.out,i];rfl),rfl⟩
  | false=>
   cases j:Lib.hasSuffix s.data.toList [45] with
   | true=>
    go_enter Tryz.func158,Tryz.ntmps158;go_wp2_with (first | (go_at_call 178;refine (Tryz.strings_HasPrefix _ _ _).mono ?_;rintro e a ⟨rfl,rfl⟩) | (go_at_call 214;refine (Tryz.strings_HasSuffix _ _ _ g).mono ?_;rintro e a ⟨rfl,rfl⟩))
    go_ret;exact ⟨d.out _ (by rw [f.out,i,j];rfl),rfl⟩
   | false=>
    go_enter Tryz.func158,Tryz.ntmps158;go_wp2_with (first | (go_at_call 178;refine (Tryz.strings_HasPrefix _ _ _).mono ?_;rintro e a ⟨rfl,rfl⟩) | (go_at_call 214;refine (Tryz.strings_HasSuffix _ _ _ g).mono ?_;rintro e a ⟨rfl,rfl⟩) | (go_at_call 215;refine (pQ _ _ _ g).mono ?_;rintro e a ⟨rfl,rfl⟩))
    go_ret;exact ⟨d.out _ (by rw [f.out,i,j];rfl),rfl⟩
 ·have l:Hid (pX s.data.toList=false):=by
   rw [Ek];exact Ha (by rw [aJ];exact c)
  have o:(decide ((s.size:Int) < 1) || decide (20 < (s.size:Int)))=true:=by simp;omega
  clear c;go_enter Tryz.func158,Tryz.ntmps158;go_wp2_with fail
  all_goals (go_ret;exact ⟨d.out _ l.out,rfl⟩)
theorem mZ (s:ByteArray) (m:Int) (w:World) (o:s.size≤maxLen) (n:w.cell? ⟨0,0,none⟩=some (.int .i64 m)):
  Calls Tryz.prog 176 #[.string s] w fun e a=>e= .returned (.bool (p8 s.data.toList))∧a=w:=by
 have i:=o;unfold maxLen at o;have c:Hid (∀b,p8 s.data.toList=b→Ending.returned (.bool b)= .returned (.bool (p8 s.data.toList))):=fun b h=>by rw [h]
 by_cases f:1≤s.size∧s.size≤20
 ·have q:decide ((s.size:Int) < 1)=false:=by simp;omega
  have r:decide (20 < (s.size:Int))=false:=by simp;omega
  have d:s.size < 4294967281:=by omega
  have g:Hid (p8 s.data.toList=(!Lib.hasPrefix s.data.toList [46] && !Lib.hasSuffix s.data.toList [46] && !Lib.contains s.data.toList [46,46] && xU s.data.toList [45,95,43,46])):=by
   show _=_;simp only [p8,aJ,decide_eq_true f.1,decide_eq_true f.2,Bool.true_and]
  clear f
  cases j:Lib.hasPrefix s.data.toList [46] with
  | true=>
   go_enter Tryz.func176,Tryz.ntmps176;go_wp2_with (go_at_call 178;refine (Tryz.strings_HasPrefix _ _ _).mono ?_;rintro e a ⟨rfl,rfl⟩)
   go_ret;exact ⟨c.out _ (by rw [g.out,j];rfl),rfl⟩
  | false=>
   cases k:Lib.hasSuffix s.data.toList [46] with
   | true=>
    go_enter Tryz.func176,Tryz.ntmps176;go_wp2_with (first | (go_at_call 178;refine (Tryz.strings_HasPrefix _ _ _).mono ?_;rintro e a ⟨rfl,rfl⟩) | (go_at_call 214;refine (Tryz.strings_HasSuffix _ _ _ i).mono ?_;rintro e a ⟨rfl,rfl⟩))
    go_ret;exact ⟨c.out _ (by rw [g.out,j,k];rfl),rfl⟩
   | false=>
    cases l:Lib.contains s.data.toList [46,46] with
    | true=>
     go_enter Tryz.func176,Tryz.ntmps176;go_wp2_with (first | (go_at_call 178;refine (Tryz.strings_HasPrefix _ _ _).mono ?_;rintro e a ⟨rfl,rfl⟩) | (go_at_call 214;refine (Tryz.strings_HasSuffix _ _ _ i).mono ?_;rintro e a ⟨rfl,rfl⟩) | (go_at_call 224;refine (Tryz.strings_Contains _ _ m _ d n).mono ?_;rintro e a ⟨rfl,rfl⟩))
     go_ret;exact ⟨c.out _ (by rw [g.out,j,k,l];rfl),rfl⟩
    | false=>
     go_enter Tryz.func176,Tryz.ntmps176;go_wp2_with (first | (go_at_call 178;refine (Tryz.strings_HasPrefix _ _ _).mono ?_;rintro e a ⟨rfl,rfl⟩) | (go_at_call 214;refine (Tryz.strings_HasSuffix _ _ _ i).mono ?_;rintro e a ⟨rfl,rfl⟩) | (go_at_call 224;refine (Tryz.strings_Contains _ _ m _ d n).mono ?_;rintro e a ⟨rfl,rfl⟩) | (go_at_call 215;refine (pQ _ _ _ i).mono ?_;rintro e a ⟨rfl,rfl⟩))
     go_ret;exact ⟨c.out _ (by rw [g.out,j,k,l];rfl),rfl⟩
 ·have p:Hid (p8 s.data.toList=false):=by
   show _=_
   cases e:p8 s.data.toList with
   | false=>rfl
   | true=>
    simp only [p8,Bool.and_eq_true,decide_eq_true_eq,aJ] at e;exact absurd ⟨e.1.1.1.1.1,e.1.1.1.1.2⟩ f
  have t:(decide ((s.size:Int) < 1) || decide (20 < (s.size:Int)))=true:=by simp;omega
  clear f;go_enter Tryz.func176,Tryz.ntmps176;go_wp2_with fail
  all_goals (go_ret;exact ⟨c.out _ p.out,rfl⟩)
def Ew (l:List UInt8) (w:World) (e:Ending) (w':World):Prop:=
 ∃ps:List ByteArray,e= .returned (.slice (some ⟨w.heap.size,0,none⟩) ps.length ps.length)∧ps.map (·.data.toList)=du 46 l∧ps.length≤41∧(∀p∈ps,p.size≤40)∧Below w.heap.size w w'∧
  ∀k (hk:k < ps.length),w'.cell? ⟨w.heap.size,k,none⟩=some (.string ps[k])
theorem uY (c:UInt8):∀l:List UInt8,(du c l).length≤l.length+1∧∀p∈du c l,p.length≤l.length
 | []=>by simp [du]
 | b::r=>by
  have d:=uY c r
  by_cases f:b=c
  ·simp only [du,f,if_true];refine ⟨by simp;omega,?_⟩
   intro p a
   rcases List.mem_cons.1 a with e | a
   ·subst e;simp
   ·have:=d.2 p a;simp;omega
  ·simp only [du,f,if_false]
   cases g:du c r with
   | nil=>simp
   | cons q qs=>
    rw [g] at d;refine ⟨by simp at d ⊢;omega,?_⟩
    intro p a
    rcases List.mem_cons.1 a with e | a
    ·subst e;have:=d.2 q List.mem_cons_self;simp;omega
    ·have:=d.2 p (List.mem_cons_of_mem _ a);simp;omega
theorem FV (s:ByteArray) (m:Int) (w:World) (j:s.size≤40) (h:w.cell? ⟨0,0,none⟩=some (.int .i64 m)):
  Calls Tryz.prog 157 #[.string s,.string ⟨#[46]⟩] w (Ew s.data.toList w):=by
 refine (Tryz.strings_Split s ⟨#[46]⟩ m w (by omega) h (by decide)).mono ?_;rintro e l ⟨rfl,rfl⟩;have a:=Lib.splitB_all ⟨#[46]⟩ (by decide) 0 _ s rfl;have f:=Lib.splitB_data ⟨#[46]⟩ 0 (Lib.countB s ⟨#[46]⟩) s;have b:(Lib.splitB ⟨#[46]⟩ 0 (Lib.countB s ⟨#[46]⟩) s).map (·.data.toList)=du 46 s.data.toList:=f.trans (Iy s.data.toList);have c:=uY 46 s.data.toList
 generalize Lib.splitB ⟨#[46]⟩ 0 (Lib.countB s ⟨#[46]⟩) s=ps at *
 refine ⟨ps,by rw [a],b,?_,?_,(Below.refl _ _).alloc (Nat.le_refl _) _,?_⟩
 ·have:=congrArg List.length b;rw [List.length_map] at this;have d:=c.1;rw [aJ] at d;omega
 ·intro p i;have:=c.2 p.data.toList (by rw [←b];exact List.mem_map_of_mem i);rw [aJ,aJ] at this;omega
 ·intro k g;have:(w.alloc (.cells (ps.map Value.string).toArray 9)).cell? ⟨w.heap.size,k,none⟩=(ps.map Value.string).toArray[k]? :=World.cell?_alloc_mark _ _ _ _ _;rw [this];simp [List.getElem?_eq_getElem g]
def lp (l:List UInt8) (w:World) (e:Ending) (w':World):Prop:=e= .returned (.bool (jj l))∧Below w.heap.size w w'
theorem lp.mk {l:List UInt8} {w:World} {e:Ending} {a:World} (b:Bool) (d:e= .returned (.bool b)) (c:jj l=b) (f:Below w.heap.size w a):lp l w e a:=⟨by rw [d,c],f⟩
theorem iy (s:ByteArray) (m:Int) (w:World) (H:s.size≤maxLen) (v:w.cell? ⟨0,0,none⟩=some (.int .i64 m)):
  Calls Tryz.prog 104 #[.string s] w (lp s.data.toList w):=by
 unfold maxLen at H
 by_cases A:40 < s.size
 ·go_enter Tryz.func104,Tryz.ntmps104;go_wp2_with fail
  go_ret;exact lp.mk false rfl (by simp [jj];intro h;omega) (Below.refl _ _)
 ·have t:decide (40 < (s.size:Int))=false:=by simp;omega
  have b:s.size≤40:=by omega
  go_enter Tryz.func104,Tryz.ntmps104;go_wp2_with fail
  refine (FV s m _ b v).mono ?_;rintro e J ⟨a,rfl,x,G,g,r,u⟩
  have o:Hid (jj s.data.toList=(a.map (·.data.toList)).all pX):=by
   show _=_;rw [x,jj,aJ,decide_eq_true b,Bool.true_and]
  have z:=Lib.hid g;have y:=Lib.hid u;clear x g u v;go_wp2_with fail
  go_loop [11] (fun i=>∃k:Nat,k≤a.length∧i= .int .i64 k∧Hid (∀j (d:j < a.length),j < k→pX a[j].data.toList=true)) (fun i=>a.length - (intOf i).toNat)
  case atStart=>exact ⟨0,Nat.zero_le _,rfl,fun j d D=>by omega⟩
  case round=>
   obtain ⟨k,D,rfl,n⟩:=hrel
   by_cases c:k < a.length
   ·have B:J.cell? ⟨w.heap.size,k,none⟩=some (.string a[k]):=y.out k c;have f:a[k].size≤maxLen:=by have:=z.out a[k] (List.getElem_mem c);unfold maxLen;omega
    cases q:pX a[k].data.toList with
    | true=>
     go_wp2_with (go_at_call 158;refine (rG _ _ f).mono ?_;rintro e I ⟨rfl,rfl⟩)
     exact ⟨⟨k+1,by omega,by go_num,fun j d C=>by
      by_cases e:j < k
      ·exact n.out j d e
      ·have:j=k:=by omega
       subst this;exact q⟩,by simp [intOf];omega⟩
    | false=>
     go_wp2_with (go_at_call 158;refine (rG _ _ f).mono ?_;rintro e I ⟨rfl,rfl⟩)
     go_ret;refine lp.mk false rfl ?_ r;rw [o.out]
     cases e:(a.map (·.data.toList)).all pX with
     | false=>rfl
     | true=>
      rw [List.all_eq_true] at e;have:=e a[k].data.toList (List.mem_map_of_mem (List.getElem_mem c));rw [q] at this;cases this
   ·go_wp2
    go_ret;refine lp.mk true rfl ?_ r;rw [o.out,List.all_eq_true];intro l E;obtain ⟨p,F,rfl⟩:=List.mem_map.1 E;obtain ⟨j,d,rfl⟩:=List.mem_iff_getElem.1 F;exact n.out j d (by omega)
theorem zy (s:ByteArray) (c:UInt8) (w:World) (l:s.size≤maxLen):
  Calls Tryz.prog 203 #[.string s,.string ⟨#[c]⟩] w (lC c s.data.toList w):=by
 unfold maxLen at l;have a:=GB c s.data.toList
 by_cases h:0≤Lib.indexByte s.data.toList c
 ·rw [if_pos h] at a;obtain ⟨i,b⟩:=Int.eq_ofNat_of_zero_le h;have j:=(Lib.indexByte_some b).1
  have k:i < s.size:=by
   have:=(List.getElem?_eq_some_iff.1 j).1;rw [aJ] at this;exact this
  have f:=Lib.hid b;rw [b,Int.toNat_natCast] at a;have d:=Lib.hid a;clear a b h j;have n:(0:Int)≤↑i:=by omega
  have o:(↑i:Int)≤↑s.size:=by omega
  have p:(0:Int)≤↑i+1:=by omega
  have q:(↑i+1:Int)≤↑s.size:=by omega
  go_enter Tryz.func203,Tryz.ntmps203;go_wp2_with (go_at_call 239;refine (Tryz.stringslite_Index_one _ _ _).mono ?_;rintro e m ⟨rfl,rfl⟩;rw [f.out])
  go_region
  go_wp2
  go_ret3
  refine lC.mk _ _ _ rfl ?_ 1 rfl;rw [d.out,Lib.extract_data,Lib.extract_to_end];rfl
 ·have g:=Lib.indexByte_ge s.data.toList c;have b:Lib.indexByte s.data.toList c= -1:=by omega
  rw [if_neg h] at a;have f:=Lib.hid b;have d:=Lib.hid a;clear a b h g;go_enter Tryz.func203,Tryz.ntmps203;go_wp2_with (go_at_call 239;refine (Tryz.stringslite_Index_one _ _ _).mono ?_;rintro e m ⟨rfl,rfl⟩;rw [f.out])
  go_ret3
  exact lC.mk _ _ _ rfl d.out 0 rfl
theorem jB (s:ByteArray) (c:UInt8) (w:World) (d:s.size≤maxLen):
  Calls Tryz.prog 150 #[.string s,.string ⟨#[c]⟩] w (lC c s.data.toList w):=by
 go_enter Tryz.func150,Tryz.ntmps150;go_wp2_with fail
 refine (zy s c _ d).mono ?_;rintro e g ⟨x,y,f,rfl,a,n,rfl⟩;have b:=Lib.hid a;clear a;go_wp2_with fail
 go_ret3
 exact lC.mk _ _ _ rfl b.out n rfl
theorem iw (s:ByteArray) (w:World) (a:s.size≤140737488355328):
  Calls Tryz.prog 69 #[.string s] w fun e b=>e= .returned (.string s)∧Below w.heap.size w b:=by
 go_enter Tryz.func69,Tryz.ntmps69;go_wp2_with fail
 refine (Tryz.stringslite_Clone s _ (by omega)).mono ?_;rintro e b ⟨rfl,c⟩;go_wp2_with fail
 go_ret;exact ⟨rfl,c⟩
theorem qZ (s:ByteArray) (w:World) (f:s.size≤40) (a:∀(j:Nat) (b:UInt8),s.data.toList[j]? =some b→b.toNat < 128):
  Calls Tryz.prog 177 #[.string s] w fun e h=>e= .returned (.string ⟨(Lib.toLowerA s.data.toList).toArray⟩)∧Below w.heap.size w h:=by
 have g:=Lib.hid a;clear a;go_enter Tryz.func177,Tryz.ntmps177;go_wp2_with fail
 refine (Tryz.strings_ToLower_ascii s _ (by omega) g.out).mono ?_;rintro e i ⟨rfl,d⟩;go_wp2_with fail
 refine (iw _ _ ?_).mono ?_
 ·show (Lib.toLowerA s.data.toList).toArray.size≤_;simp [Lib.toLowerA];omega
 rintro e k ⟨rfl,c⟩;go_wp2_with fail
 go_ret;exact ⟨rfl,d.trans (c.mono d.size)⟩
def fq (l:List UInt8):List UInt8×List UInt8×Bool:=
 if p8 (cz 64 l).1 && jj (cz 64 l).2.1 then ((cz 64 l).1,Lib.toLowerA (cz 64 l).2.1,true) else ([],[],false)
def jR (l:List UInt8) (w:World) (e:Ending) (w':World):Prop:=
 ∃(x y:ByteArray) (f:Bool),e= .returned (.tuple #[.string x,.string y,.bool f])∧fq l=(x.data.toList,y.data.toList,f)∧Below w.heap.size w w'
theorem jR.mk {l:List UInt8} {w:World} {e:Ending} {a:World} (x y:ByteArray) (f:Bool) (c:e= .returned (.tuple #[.string x,.string y,.bool f])) (b:fq l=(x.data.toList,y.data.toList,f)) (d:Below w.heap.size w a):jR l w e a:=
 ⟨x,y,f,c,b,d⟩
theorem bA (n:Nat) (w:World) (B:Nat):Below B w (w.drewN n):=by
 induction n with
 | zero=>exact Below.refl _ _
 | succ n ih=>exact ih.trans ((Below.refl _ _).drew)
theorem vz (s:ByteArray) (m:Int) (w:World) (B:s.size≤140737488355328) (z:w.cell? ⟨0,0,none⟩=some (.int .i64 m)):
  Calls Tryz.prog 125 #[.string s] w (jR s.data.toList w):=by
 have v:s.size≤maxLen:=by unfold maxLen;omega
 go_enter Tryz.func125,Tryz.ntmps125;go_wp2_with fail
 refine (jB s 64 _ v).mono ?_;rintro e q ⟨x,y,f,rfl,p,n,rfl⟩;have r:=sX 64 _ _ _ _ p;rw [aJ,aJ,aJ] at r;have A:x.size≤140737488355328:=by omega
 have C:y.size≤140737488355328:=by omega
 have b:x.size≤maxLen:=by unfold maxLen;omega
 have i:y.size≤maxLen:=by unfold maxLen;omega
 have j:Hid (fq s.data.toList=if p8 x.data.toList && jj y.data.toList then (x.data.toList,Lib.toLowerA y.data.toList,true) else ([],[],false)):=by
  show _=_;rw [fq,p]
 clear r p;have a:(w.drewN n).cell? ⟨0,0,none⟩=some (.int .i64 m):=by simpa using z
 cases k:p8 x.data.toList with
 | false=>
  go_wp2_with (go_at_call 176;refine (mZ _ m _ b a).mono ?_;rintro e q ⟨rfl,rfl⟩)
  go_ret3
  exact jR.mk _ _ _ rfl (by rw [j.out,k];rfl) (bA _ _ _)
 | true=>
  cases c:jj y.data.toList with
  | false=>
   go_wp2_with (first | (go_at_call 176;refine (mZ _ m _ b a).mono ?_;rintro e q ⟨rfl,rfl⟩) | fail)
   refine (iy y m _ i a).mono ?_;rintro e t ⟨rfl,l⟩;rw [c];go_wp2_with fail
   go_ret3
   exact jR.mk _ _ _ rfl (by rw [j.out,k,c];rfl) ((bA _ _ _).trans (by simpa using l))
  | true=>
   have h:y.size≤40:=by have:=GC _ c;rwa [aJ] at this
   have u:=Lib.hid (qK _ c);go_wp2_with (first | (go_at_call 176;refine (mZ _ m _ b a).mono ?_;rintro e q ⟨rfl,rfl⟩) | fail)
   refine (iy y m _ i a).mono ?_;rintro e t ⟨rfl,l⟩;rw [c];go_wp2_with fail
   refine (iw x _ A).mono ?_;rintro e D ⟨rfl,g⟩;go_wp2_with fail
   refine (qZ y _ h u.out).mono ?_;rintro e E ⟨rfl,o⟩;go_wp2_with fail
   go_ret3
   have d:Below w.heap.size w t:=(bA _ _ _).trans (by simpa using l);exact jR.mk _ _ _ rfl (by rw [j.out,k,c];rfl) (d.trans ((g.trans (o.mono g.size)).mono d.size))
def bg (w:World) (v:Value) (n sz:Nat) (cs:List Value):Prop:=
 cs.length=n * sz∧((n=0∧∃a cap,v= .slice a 0 cap)∨∃b off cap,v= .slice (some ⟨b,off,none⟩) n cap∧n≤cap∧∀j:Nat,j < n * sz→w.cell? ⟨b,off+j,none⟩=cs[j]?)
theorem aC {w:World} {b o:Nat} {v:Value} (h:w.cell? ⟨b,o,none⟩=some v):b < w.heap.size:=by
 rcases Nat.lt_or_ge b w.heap.size with a | a
 ·exact a
 ·simp [World.cell?,Array.getElem?_eq_none a] at h
theorem bg.below {w k:World} {v:Value} {n i:Nat} {c:List Value} (h:bg w v n i c) (l:Below w.heap.size w k):bg k v n i c:=by
 obtain ⟨g,h | ⟨b,a,cap,q,e,m⟩⟩:=h
 ·exact ⟨g,.inl h⟩
 ·refine ⟨g,.inr ⟨b,a,cap,q,e,fun j o=>?_⟩⟩;have d:=m j o;have f:j < c.length:=by omega
  rw [List.getElem?_eq_getElem f] at d ⊢;rw [←d];exact l.cell (p:=⟨b,a+j,none⟩) (aC d)
theorem bg.shape {w:World} {v:Value} {n d:Nat} {e:List Value} (h:bg w v n d e):∃a cap,v= .slice a n cap∧∀(k i:Nat),k < n→i < d→∃b c,a=some ⟨b,c,none⟩∧b < w.heap.size∧w.cell? ⟨b,c+(k * d+i),none⟩=e[k * d+i]? :=by
 obtain ⟨o,⟨rfl,a,cap,rfl⟩ | ⟨b,c,cap,rfl,_,g⟩⟩:=h
 ·exact ⟨a,cap,rfl,fun k i l=>by omega⟩
 ·refine ⟨_,cap,rfl,fun k i l m=>?_⟩
  have j:k * d+i < n * d:=by
   have:(k+1) * d≤n * d:=Nat.mul_le_mul_right _ l;rw [Nat.add_mul] at this;omega
  refine ⟨b,c,rfl,?_,g _ j⟩;have f:=g _ j;rw [List.getElem?_eq_getElem (by omega)] at f;exact aC f
theorem bg.cap {w:World} {a:Option Addr} {n m cap i:Nat} {cs:List Value} (h:bg w (.slice a n cap) m i cs):m≤cap:=by
 obtain ⟨_,⟨rfl,_⟩ | ⟨b,g,c,f,d,_⟩⟩:=h
 ·exact Nat.zero_le _
 ·injection f with _ _ e;omega
theorem bg.one {w:World} {v:Value} {n:Nat} {e:List Value} (h:bg w v n 1 e):∃a c,v= .slice a n c∧∀k:Nat,k < n→∃b d,a=some ⟨b,d,none⟩∧b < w.heap.size∧w.cell? ⟨b,d+k,none⟩=e[k]? :=by
 obtain ⟨a,c,i,f⟩:=h.shape;refine ⟨a,c,i,fun k g=>?_⟩;have:=f k 0 g (by decide);simpa using this
def cF (n a b:Int):Bool:=decide (a≤n) && decide (n≤b)
theorem me {a b:Bool} (h:b=a):Ending.returned (.bool a)= .returned (.bool b):=by rw [h]
theorem cB (n a b:Int) (w:World):Calls Tryz.prog 108 #[.int .i64 n,.int .i64 a,.int .i64 b] w fun e g=>e= .returned (.bool (cF n a b))∧w=g:=by
 by_cases d:a≤n
 ·by_cases f:n≤b
  ·go_enter Tryz.func108,Tryz.ntmps108;go_wp2
   go_ret;exact ⟨me (by simp [cF,d,f]),rfl⟩
  ·have c:decide (n≤b)=false:=by simpa using f
   go_enter Tryz.func108,Tryz.ntmps108;go_wp2
   all_goals (go_ret;exact ⟨me (by rw [cF,c,Bool.and_false]),rfl⟩)
 ·have c:decide (a≤n)=false:=by simpa using d
  go_enter Tryz.func108,Tryz.ntmps108;go_wp2
  all_goals (go_ret;exact ⟨me (by rw [cF,c];rfl),rfl⟩)
def mF (l:List UInt8):Bool:=cF l.length 1 20 && decide (Lib.indexByte l 0 < 0)
theorem uq (s:ByteArray) (w:World) (g:s.size≤maxLen):Calls Tryz.prog 160 #[.string s] w fun e a=>e= .returned (.bool (mF s.data.toList))∧w=a:=by
 have d:=g;unfold maxLen at d
 have b:Hid (mF s.data.toList=(cF s.size 1 20 && decide (Lib.indexByte s.data.toList 0 < 0))):=by
  show _=_;rw [mF,aJ]
 cases c:cF (s.size:Int) 1 20 with
 | false=>
  go_enter Tryz.func160,Tryz.ntmps160;go_wp2_with (go_at_call 108;refine (cB _ _ _ _).mono ?_;rintro e a ⟨rfl,rfl⟩)
  go_ret;exact ⟨me (by rw [b.out,c];rfl),rfl⟩
 | true=>
  cases f:decide (Lib.indexByte s.data.toList 0 < 0) with
  | false=>
   go_enter Tryz.func160,Tryz.ntmps160;go_wp2_with (first | (go_at_call 108;refine (cB _ _ _ _).mono ?_;rintro e a ⟨rfl,rfl⟩) | (go_at_call 216;refine (jL s 0 _).mono ?_;rintro e a ⟨rfl,rfl⟩))
   go_ret;exact ⟨me (by rw [b.out,c,f];rfl),rfl⟩
  | true=>
   go_enter Tryz.func160,Tryz.ntmps160;go_wp2_with (first | (go_at_call 108;refine (cB _ _ _ _).mono ?_;rintro e a ⟨rfl,rfl⟩) | (go_at_call 216;refine (jL s 0 _).mono ?_;rintro e a ⟨rfl,rfl⟩))
   go_ret;exact ⟨me (by rw [b.out,c,f];rfl),rfl⟩
def kI (l:List Int):Bool:=cF l.length 1 5 && l.all fun x=>cF x 1 1000000000
def ib (l:List Int):List Value:=l.map (Value.int .i64)
theorem gF (v:Value) (l:List Int) (w:World) (h:bg w v l.length 1 (ib l)) (B:l.length≤140737488351232):
  Calls Tryz.prog 109 #[v] w fun e g=>e= .returned (.bool (kI l))∧w=g:=by
 obtain ⟨a,y,rfl,s⟩:=h.one;have p:=Lib.hid s;clear s h
 cases m:cF (l.length:Int) 1 5 with
 | false=>
  go_enter Tryz.func109,Tryz.ntmps109;go_wp2_with (go_at_call 108;refine (cB _ _ _ _).mono ?_;rintro e g ⟨rfl,rfl⟩)
  go_ret;exact ⟨me (by rw [kI,m];rfl),rfl⟩
 | true=>
  go_enter Tryz.func109,Tryz.ntmps109;go_wp2_with (go_at_call 108;refine (cB _ _ _ _).mono ?_;rintro e g ⟨rfl,rfl⟩)
  go_loop [11] (fun i=>∃k:Nat,k≤l.length∧i= .int .i64 k∧Hid (∀j:Nat,j < k→cF (l.getD j 0) 1 1000000000=true)) (fun i=>l.length - (intOf i).toNat)
  case atStart=>exact ⟨0,Nat.zero_le _,rfl,fun j n=>by omega⟩
  case round=>
   obtain ⟨k,A,rfl,q⟩:=hrel
   by_cases c:k < l.length
   ·obtain ⟨b,o,rfl,z,d⟩:=p.out k c;obtain ⟨x,f⟩:∃x,l.getD k 0=x:=⟨_,rfl⟩
    have t:w.cell? ⟨b,o+k,none⟩=some (.int .i64 x):=by
     rw [d,ib,List.getElem?_map,List.getElem?_eq_getElem c,←f,List.getD_eq_getElem?_getD,List.getElem?_eq_getElem c];rfl
    have r:=Lib.hid f;clear d f p
    cases u:cF x 1 1000000000 with
    | true=>
     go_wp2_with (go_at_call 108;refine (cB _ _ _ _).mono ?_;rintro e g ⟨rfl,rfl⟩)
     refine ⟨⟨k+1,by omega,by go_num,fun j n=>?_⟩,by simp [intOf];omega⟩
     by_cases e:j < k
     ·exact q.out j e
     ·rw [show j=k by omega,r.out,u]
    | false=>
     go_wp2_with (go_at_call 108;refine (cB _ _ _ _).mono ?_;rintro e g ⟨rfl,rfl⟩)
     go_ret;refine ⟨me ?_,rfl⟩;rw [kI,m,Bool.true_and]
     cases e:l.all (fun x=>cF x 1 1000000000) with
     | false=>rfl
     | true=>
      rw [List.all_eq_true] at e;have:=e x (by rw [←r.out,List.getD_eq_getElem?_getD,List.getElem?_eq_getElem c];exact List.getElem_mem c);rw [u] at this;cases this
   ·go_wp2
    go_ret;refine ⟨me ?_,rfl⟩;rw [kI,m,Bool.true_and,List.all_eq_true];intro x f;obtain ⟨j,n,rfl⟩:=List.mem_iff_getElem.1 f;have:=q.out j (by omega)
    rwa [List.getD_eq_getElem?_getD,List.getElem?_eq_getElem n] at this
def dK (l:List ByteArray):List Value:=l.map Value.string
def oq (l:List ByteArray):Bool:=decide (l.length≤5) && l.all fun s=>jj s.data.toList
def eQ (b:Bool) (w:World) (e:Ending) (w':World):Prop:=e= .returned (.bool b)∧Below w.heap.size w w'
theorem eQ.mk {b:Bool} {w:World} {e:Ending} {a:World} (c:Bool) (f:e= .returned (.bool c)) (d:b=c) (g:Below w.heap.size w a):eQ b w e a:=⟨by rw [f,d],g⟩
theorem xx {α:Type} {p:α→Bool} {l:List α} {k:Nat} (a:k < l.length) (h:p l[k]=false):l.all p=false:=by
 cases e:l.all p with
 | false=>rfl
 | true=>
  rw [List.all_eq_true] at e;have:=e l[k] (List.getElem_mem a);rw [h] at this;cases this
theorem xy {α:Type} {p:α→Bool} {l:List α} (h:∀(j:Nat) (a:j < l.length),p l[j]=true):l.all p=true:=by
 rw [List.all_eq_true];intro x b;obtain ⟨j,a,rfl⟩:=List.mem_iff_getElem.1 b;exact h j a
theorem D8 {α:Type} {p:α→Bool} {l:List α} {k:Nat} (d:k < l.length) (c:∀(j:Nat) (a:j < l.length),j < k→p l[j]=true) (h:p l[k]=true):∀(j:Nat) (a:j < l.length),j < k+1→p l[j]=true:=by
 intro j a b
 by_cases e:j < k
 ·exact c j a e
 ·have:j=k:=by omega
  subst this;exact h
theorem qL (v:Value) (l:List ByteArray) (m:Int) (w:World) (h:bg w v l.length 1 (dK l)) (O:l.length≤140737488351232) (E:∀s∈l,s.size≤maxLen) (D:w.cell? ⟨0,0,none⟩=some (.int .i64 m)):
  Calls Tryz.prog 105 #[v] w (eQ (oq l) w):=by
 obtain ⟨a,G,rfl,B⟩:=h.one;have y:=Lib.hid B;have F:=Lib.hid E;have H:=aC D;clear B h E
 by_cases M:5 < l.length
 ·go_enter Tryz.func105,Tryz.ntmps105;go_wp2
  go_ret;exact eQ.mk false rfl (by simp [oq];intro h;omega) (Below.refl _ _)
 ·have I:decide (5 < (l.length:Int))=false:=by simp;omega
  have z:Hid (oq l=l.all fun s=>jj s.data.toList):=by
   show _=_;rw [oq,decide_eq_true (by omega),Bool.true_and]
  go_enter Tryz.func105,Tryz.ntmps105;go_wp2
  go_loopw [10] (fun i K=>∃k:Nat,k≤l.length∧i= .int .i64 k∧Hid (∀(j:Nat) (x:j < l.length),j < k→jj l[j].data.toList=true)∧Below w.heap.size w K) (fun i _=>l.length - (intOf i).toNat)
  case atStart=>exact ⟨0,Nat.zero_le _,rfl,(fun j x J=>by omega),Below.refl _ _⟩
  case round=>
   obtain ⟨k,N,rfl,A,c⟩:=hrel;have g:=Lib.hid c
   by_cases d:k < l.length
   ·obtain ⟨b,r,rfl,u,n⟩:=y.out k d
    have C:wr.cell? ⟨b,r+k,none⟩=some (.string l[k]):=by
     rw [c.cell (p:=⟨b,r+k,none⟩) u,n,dK,List.getElem?_map,List.getElem?_eq_getElem d];rfl
    have o:wr.cell? ⟨0,0,none⟩=some (.int .i64 m):=(c.cell H).trans D;have q:=F.out l[k] (List.getElem_mem d);clear n y c
    cases t:jj l[k].data.toList with
    | true=>
     go_wp2_with fail
     refine (iy _ m _ q o).mono ?_;rintro e L ⟨rfl,f⟩;rw [t];go_wp2_with fail
     exact ⟨⟨k+1,by omega,by go_num,D8 (p:=fun s:ByteArray=>jj s.data.toList) d A.out t,g.out.trans (f.mono g.out.size)⟩,by simp [intOf];omega⟩
    | false=>
     go_wp2_with fail
     refine (iy _ m _ q o).mono ?_;rintro e L ⟨rfl,f⟩;rw [t];go_wp2_with fail
     go_ret;exact eQ.mk false rfl (by rw [z.out];exact xx (p:=fun s:ByteArray=>jj s.data.toList) d t) (g.out.trans (f.mono g.out.size))
   ·clear c;go_wp2
    go_ret;exact eQ.mk true rfl (by rw [z.out];exact xy (p:=fun s:ByteArray=>jj s.data.toList) (fun j x=>A.out j x (by omega))) g.out
def qg (x:Int×Int):Bool:=cF x.2 0 32 && cF x.1 0 4294967295 && decide (x.1 % 2 ^ (32 - x.2).toNat=0)
def ik (l:List (Int×Int)):List Value:=l.flatMap fun x=>[.int .i64 x.1,.int .i64 x.2]
def nr (l:List (Int×Int)):Bool:=decide (l.length≤5) && l.all qg
theorem Gm (A n:Nat) (f:A≤4294967295) (b:n≤32):bits .and .u64 (A:Int) ((2:Int) ^ n - 1)=(((A % 2 ^ n:Nat)):Int):=by
 have a:1≤2 ^ n:=Nat.one_le_two_pow;have c:2 ^ n≤2 ^ 32:=Nat.pow_le_pow_right (by decide) b;have d:(2:Nat) ^ 32=4294967296:=by decide
 have e:((2:Int) ^ n - 1)=((2 ^ n - 1:Nat):Int):=by
  rw [Int.natCast_sub a,Int.natCast_pow];rfl
 rw [e,u64_and_nat _ _ (by omega) (by omega),Nat.and_two_pow_sub_one_eq_mod]
theorem Hx (a l:Int) (b:0≤a) (g:a≤4294967295):decide (a % 2 ^ (32 - l).toNat=0)=(bits BinOp.and IntKind.u64 a (IntKind.u64.wrap (IntKind.u64.wrap (2 ^ (32 - l).toNat) - 1)) == 0)∨32 < (32 - l).toNat:=by
 obtain ⟨A,rfl⟩:=Int.eq_ofNat_of_zero_le b;obtain ⟨n,c⟩:∃n,(32 - l).toNat=n:=⟨_,rfl⟩;rw [c]
 by_cases h:32 < n
 ·exact Or.inr h
 left
 have i:1≤2 ^ n:=Nat.one_le_two_pow;have j:2 ^ n≤2 ^ 32:=Nat.pow_le_pow_right (by decide) (by omega);have k:(2:Nat) ^ 32=4294967296:=by decide
 have e:((2:Int) ^ n)=((2 ^ n:Nat):Int):=by rw [Int.natCast_pow];rfl
 have d:IntKind.u64.wrap (2 ^ n)=(2:Int) ^ n:=by rw [e,IntKind.wrap_u64];omega
 have f:IntKind.u64.wrap ((2:Int) ^ n - 1)=(2:Int) ^ n - 1:=by rw [e,IntKind.wrap_u64];omega
 rw [d,f,Gm A n (by omega) (by omega),e,Bool.eq_iff_iff];simp only [decide_eq_true_eq,beq_iff_eq];omega
theorem Hw (l:List (Int×Int)) (k:Nat) (h:k < l.length):(ik l)[k * 2]? =some (.int .i64 l[k].1):=by
 induction l generalizing k with
 | nil=>simp at h
 | cons x r ih=>
  cases k with
  | zero=>rfl
  | succ k=>
   have:=ih k (by simpa using h);rw [show (k+1) * 2=k * 2+1+1 by omega]
   simpa [ik] using this
theorem Eo (l:List (Int×Int)) (k:Nat) (h:k < l.length):(ik l)[k * 2+1]? =some (.int .i64 l[k].2):=by
 induction l generalizing k with
 | nil=>simp at h
 | cons x r ih=>
  cases k with
  | zero=>rfl
  | succ k=>
   have:=ih k (by simpa using h);rw [show (k+1) * 2+1=k * 2+1+1+1 by omega]
   simpa [ik] using this
theorem qh (a l:Int) (w:World):Calls Tryz.prog 159 #[.agg #[.int .i64 a,.int .i64 l]] w (eQ (qg (a,l)) w):=by
 cases b:cF l 0 32 with
 | false=>
  go_enter Tryz.func159,Tryz.ntmps159;go_wp2_with (go_at_call 108;refine (cB _ _ _ _).mono ?_;rintro e d ⟨rfl,rfl⟩)
  go_ret;exact eQ.mk false rfl (by simp [qg,b]) ((Below.refl _ _).alloc (Nat.le_refl _) _)
 | true=>
  cases c:cF a 0 4294967295 with
  | false=>
   go_enter Tryz.func159,Tryz.ntmps159;go_wp2_with (go_at_call 108;refine (cB _ _ _ _).mono ?_;rintro e d ⟨rfl,rfl⟩)
   go_ret;exact eQ.mk false rfl (by simp [qg,c]) ((Below.refl _ _).alloc (Nat.le_refl _) _)
  | true=>
   have h:0≤l:=by simp [cF] at b;omega
   have i:l≤32:=by simp [cF] at b;omega
   have f:0≤a:=by simp [cF] at c;omega
   have g:a≤4294967295:=by simp [cF] at c;omega
   go_enter Tryz.func159,Tryz.ntmps159;go_wp2_with (go_at_call 108;refine (cB _ _ _ _).mono ?_;rintro e d ⟨rfl,rfl⟩)
   go_ret;refine eQ.mk _ rfl ?_ ((Below.refl _ _).alloc (Nat.le_refl _) _);rw [qg,b,c,Bool.true_and,Bool.true_and];exact (Hx a l f g).resolve_right (by omega)
theorem wW (v:Value) (l:List (Int×Int)) (w:World) (h:bg w v l.length 2 (ik l)) (Q:l.length≤140737488351232):
  Calls Tryz.prog 106 #[v] w (eQ (nr l) w):=by
 obtain ⟨a,I,rfl,H⟩:=h.shape;have z:=Lib.hid H;clear H h
 by_cases O:5 < l.length
 ·go_enter Tryz.func106,Tryz.ntmps106;go_wp2
  go_ret;exact eQ.mk false rfl (by simp [nr];intro h;omega) (Below.refl _ _)
 ·have J:decide (5 < (l.length:Int))=false:=by simp;omega
  have D:Hid (nr l=l.all qg):=by
   show _=_;rw [nr,decide_eq_true (by omega),Bool.true_and]
  go_enter Tryz.func106,Tryz.ntmps106;go_wp2
  go_loopw [10] (fun i N=>∃k:Nat,k≤l.length∧i= .int .i64 k∧Hid (∀(j:Nat) (A:j < l.length),j < k→qg l[j]=true)∧Below w.heap.size w N) (fun i _=>l.length - (intOf i).toNat)
  case atStart=>exact ⟨0,Nat.zero_le _,rfl,(fun j A M=>by omega),Below.refl _ _⟩
  case round=>
   obtain ⟨k,P,rfl,E,c⟩:=hrel;have n:=Lib.hid c
   by_cases f:k < l.length
   ·obtain ⟨b,B,rfl,t,q⟩:=z.out k 0 f (by decide);obtain ⟨s,d,G,_,m⟩:=z.out k 1 f (by decide)
    obtain ⟨rfl,rfl⟩:s=b∧d=B:=by
     have:=(Option.some.inj G).symm;simp at this;exact this
    obtain ⟨x,y⟩:∃x,l[k]=x:=⟨_,rfl⟩
    have K:wr.cell? ⟨s,d+k * 2,none⟩=some (.int .i64 x.1):=by
     rw [c.cell (p:=⟨s,d+k * 2,none⟩) t];rw [Nat.add_zero] at q;rw [q,Hw l k f,y]
    have L:wr.cell? ⟨s,d+k * 2+1,none⟩=some (.int .i64 x.2):=by
     rw [c.cell (p:=⟨s,d+k * 2+1,none⟩) t];rw [←Nat.add_assoc] at m;rw [m,Eo l k f,y]
    have F:=Lib.hid y;clear q m z c y G
    cases u:qg x with
    | true=>
     have r:qg (x.1,x.2)=true:=u;go_wp2_with fail
     refine (qh _ _ _).mono ?_;rintro e C ⟨rfl,g⟩;rw [r];have o:Hid (Below w.heap.size w C):=(n.out.alloc n.out.size _).trans (g.mono (by have:=n.out.size;simp;omega));clear g;go_wp2_with fail
     exact ⟨⟨k+1,by omega,by go_num,D8 (p:=qg) f E.out (by rw [F.out];exact u),o.out⟩,by simp [intOf];omega⟩
    | false=>
     have r:qg (x.1,x.2)=false:=u;go_wp2_with fail
     refine (qh _ _ _).mono ?_;rintro e C ⟨rfl,g⟩;rw [r];have o:Hid (Below w.heap.size w C):=(n.out.alloc n.out.size _).trans (g.mono (by have:=n.out.size;simp;omega));clear g;go_wp2_with fail
     go_ret;exact eQ.mk false rfl (by rw [D.out];exact xx (p:=qg) f (by rw [F.out];exact u)) o.out
   ·clear c;go_wp2
    go_ret;exact eQ.mk true rfl (by rw [D.out];exact xy (p:=qg) (fun j A=>E.out j A (by omega))) n.out
def cH (l:List (ByteArray×ByteArray)):List Value:=l.flatMap fun x=>[.string x.1,.string x.2]
theorem tp (l:List (ByteArray×ByteArray)) (k:Nat) (h:k < l.length):(cH l)[k * 2]? =some (.string l[k].1):=by
 induction l generalizing k with
 | nil=>simp at h
 | cons x r ih=>
  cases k with
  | zero=>rfl
  | succ k=>
   have:=ih k (by simpa using h);rw [show (k+1) * 2=k * 2+1+1 by omega]
   simpa [cH] using this
theorem qD (l:List (ByteArray×ByteArray)) (k:Nat) (h:k < l.length):(cH l)[k * 2+1]? =some (.string l[k].2):=by
 induction l generalizing k with
 | nil=>simp at h
 | cons x r ih=>
  cases k with
  | zero=>rfl
  | succ k=>
   have:=ih k (by simpa using h);rw [show (k+1) * 2+1=k * 2+1+1+1 by omega]
   simpa [cH] using this
def qT (l:List (ByteArray×ByteArray)) (s:ByteArray):Bool:=l.any fun x=>x.1.toList == s.toList
theorem rF (v:Value) (l:List (ByteArray×ByteArray)) (s:ByteArray) (w:World) (h:bg w v l.length 2 (cH l)) (M:l.length≤140737488351232):
  Calls Tryz.prog 161 #[v,.string s] w (eQ (qT l s) w):=by
 obtain ⟨a,H,rfl,F⟩:=h.shape;have z:=Lib.hid F;clear F h;go_enter Tryz.func161,Tryz.ntmps161;go_wp2
 go_loopw [9] (fun i K=>∃k:Nat,k≤l.length∧i= .int .i64 k∧Hid (∀(j:Nat) (u:j < l.length),j < k→(l[j].1.toList == s.toList)=false)∧Below w.heap.size w K) (fun i _=>l.length - (intOf i).toNat)
 case atStart=>exact ⟨0,Nat.zero_le _,rfl,(fun j u A=>by omega),Below.refl _ _⟩
 case round=>
  obtain ⟨k,L,rfl,C,c⟩:=hrel;have y:=Lib.hid c
  by_cases g:k < l.length
  ·obtain ⟨b,B,rfl,t,m⟩:=z.out k 0 g (by decide);obtain ⟨r,d,E,_,f⟩:=z.out k 1 g (by decide)
   obtain ⟨rfl,rfl⟩:r=b∧d=B:=by
    have:=(Option.some.inj E).symm;simp at this;exact this
   obtain ⟨x,n⟩:∃x,l[k]=x:=⟨_,rfl⟩
   have I:wr.cell? ⟨r,d+k * 2,none⟩=some (.string x.1):=by
    rw [c.cell (p:=⟨r,d+k * 2,none⟩) t];rw [Nat.add_zero] at m;rw [m,tp l k g,n]
   have J:wr.cell? ⟨r,d+k * 2+1,none⟩=some (.string x.2):=by
    rw [c.cell (p:=⟨r,d+k * 2+1,none⟩) t];rw [←Nat.add_assoc] at f;rw [f,qD l k g,n]
   have D:=Lib.hid n;clear m f z c n E;have q:∀o,Hid (Below w.heap.size w (wr.alloc o)):=fun o=>y.out.alloc y.out.size o
   cases G:(x.1.toList == s.toList) with
   | true=>
    go_wp2
    go_ret;refine eQ.mk true rfl ?_ (q _).out;rw [qT,List.any_eq_true];exact ⟨l[k],List.getElem_mem g,by rw [D.out];exact G⟩
   | false=>
    go_wp2
    exact ⟨⟨k+1,by omega,by go_num,(fun j u A=>by
     by_cases e:j < k
     ·exact C.out j u e
     ·have:j=k:=by omega
      subst this
      rw [D.out];exact G),(q _).out⟩,by simp [intOf];omega⟩
  ·clear c;go_wp2
   go_ret;refine eQ.mk false rfl ?_ y.out;rw [qT,List.any_eq_false];intro x n;obtain ⟨j,u,rfl⟩:=List.mem_iff_getElem.1 n;rw [C.out j u (by omega)];simp
theorem jQ (s:ByteArray) (w:World) (c:s.size≤maxLen):Calls Tryz.prog 160 #[.string s] w fun e d=>e= .returned (.bool (mF s.data.toList))∧d=w:=
 (uq s w c).mono fun _ _ ⟨a,b⟩=>⟨a,b.symm⟩
def mq (l:List (ByteArray×ByteArray)) (k:Nat):Bool:=mF (l.getD k (ByteArray.empty,ByteArray.empty)).1.data.toList && mF (l.getD k (ByteArray.empty,ByteArray.empty)).2.data.toList && !qT (l.take k) (l.getD k (ByteArray.empty,ByteArray.empty)).1
def kG (l:List (ByteArray×ByteArray)):Bool:=decide (l.length≤5) && (List.range l.length).all (mq l)
theorem DR (l:List (ByteArray×ByteArray)) (k:Nat) (h:k≤l.length):cH (l.take k)=(cH l).take (k * 2):=by
 induction l generalizing k with
 | nil=>simp [cH]
 | cons x r ih=>
  cases k with
  | zero=>simp [cH]
  | succ k=>
   have:=ih k (by simpa using h);rw [show (k+1) * 2=k * 2+1+1 by omega]
   simp [cH] at this ⊢;exact this
theorem xq (l:List (ByteArray×ByteArray)):(cH l).length=l.length * 2:=by
 induction l with
 | nil=>rfl
 | cons x r ih=>simp [cH] at ih ⊢;omega
theorem DD {w:World} {b d:Nat} {l:List (ByteArray×ByteArray)} (h:∀j:Nat,j < l.length * 2→w.cell? ⟨b,d+j,none⟩=(cH l)[j]?) (k:Nat) (g:k≤l.length) (a:Nat) (e:k≤a):bg w (.slice (some ⟨b,d,none⟩) k a) (l.take k).length 2 (cH (l.take k)):=by
 have c:(l.take k).length=k:=by rw [List.length_take,Nat.min_eq_left g]
 refine ⟨xq _,.inr ⟨b,d,a,by rw [c],by rw [c];exact e,fun j f=>?_⟩⟩
 rw [c] at f;rw [h j (by omega),DR l k g,List.getElem?_take_of_lt f]
theorem wi (v:Value) (l:List (ByteArray×ByteArray)) (w:World) (h:bg w v l.length 2 (cH l)) (hl:l.length≤140737488351232) (X:∀x∈l,x.1.size≤maxLen∧x.2.size≤maxLen):
  Calls Tryz.prog 107 #[v] w (eQ (kG l) w):=by
 have I:=Lib.hid h;obtain ⟨a,B,rfl,W⟩:=h.shape;have M:=Lib.hid W;have U:=Lib.hid X;clear W h X
 by_cases h5:5 < l.length
 ·go_enter Tryz.func107,Tryz.ntmps107;go_wp2
  go_ret;exact eQ.mk false rfl (by simp [kG];intro h;omega) (Below.refl _ _)
 ·have Z:decide (5 < (l.length:Int))=false:=by simp;omega
  have S:Hid (kG l=(List.range l.length).all (mq l)):=by
   show _=_;rw [kG,decide_eq_true (by omega),Bool.true_and]
  go_enter Tryz.func107,Tryz.ntmps107;go_wp2
  go_loopw [10] (fun i D=>∃k:Nat,k≤l.length∧i= .int .i64 k∧Hid (∀(j:Nat),j < k→mq l j=true)∧Below w.heap.size w D) (fun i _=>l.length - (intOf i).toNat)
  case atStart=>exact ⟨0,Nat.zero_le _,rfl,(fun j a2=>by omega),Below.refl _ _⟩
  case round=>
   obtain ⟨k,hk,rfl,T,d⟩:=hrel;have y:=Lib.hid d
   by_cases f:k < l.length
   ·obtain ⟨b,P,rfl,F,C⟩:=M.out k 0 f (by decide);obtain ⟨E,c,V,_,q⟩:=M.out k 1 f (by decide)
    obtain ⟨rfl,rfl⟩:E=b∧c=P:=by
     have:=(Option.some.inj V).symm;simp at this;exact this
    obtain ⟨x,G⟩:∃x,l[k]=x:=⟨_,rfl⟩
    have a0:wr.cell? ⟨E,c+k * 2,none⟩=some (.string x.1):=by
     rw [d.cell (p:=⟨E,c+k * 2,none⟩) F];rw [Nat.add_zero] at C;rw [C,tp l k f,G]
    have a1:wr.cell? ⟨E,c+k * 2+1,none⟩=some (.string x.2):=by
     rw [d.cell (p:=⟨E,c+k * 2+1,none⟩) F];rw [←Nat.add_assoc] at q;rw [q,qD l k f,G]
    have H:=U.out l[k] (List.getElem_mem f);rw [G] at H;obtain ⟨L,R⟩:=H
    have t:Hid (∀(D:World),Below w.heap.size w D→bg D (.slice (some ⟨E,c,none⟩) k B) (l.take k).length 2 (cH (l.take k))):=by
     show ∀_,_;intro D N;refine DD (fun j J=>?_) k hk B (by have:=I.out.cap;omega);obtain ⟨a4,⟨h0,_⟩ | ⟨b2,o2,c2,r,_,O⟩⟩:=I.out.below N
     ·omega
     ·injection r with r;injection r with r;injection r with e1 e2;subst e1 e2;exact O j J
    have s:Hid (mq l k=(mF x.1.data.toList && mF x.2.data.toList && !qT (l.take k) x.1)):=by
     show _=_;have:l.getD k (ByteArray.empty,ByteArray.empty)=x:=by rw [List.getD_eq_getElem?_getD,List.getElem?_eq_getElem f,←G];rfl
     rw [mq,this]
    have m:Hid (mq l k=false→kG l=false):=by
     show _→_;intro hf;rw [S.out]
     cases e:(List.range l.length).all (mq l) with
     | false=>rfl
     | true=>
      rw [List.all_eq_true] at e;have:=e k (List.mem_range.2 f);rw [hf] at this;cases this
    have a3:(k:Int)≤(B:Int):=by have:=I.out.cap;omega
    have g:∀o,Below w.heap.size w (wr.alloc o).drew:=fun o=>(y.out.alloc y.out.size o).drew;have u:∀o,w.heap.size≤(wr.alloc o).drew.heap.size:=fun o=>(g o).size;clear C q M d G V I U
    cases K:mF x.1.data.toList with
    | false=>
     have A:=Lib.hid (m.out (by rw [s.out,K];rfl));go_wp2_with fail
     go_quiet ((go_at_call 160;exact Calls.quiet_of_same (jQ _ _ L)))
     go_wp2_with fail
     go_ret;exact eQ.mk false rfl A.out ((y.out.alloc y.out.size _).trans (bA _ _ _))
    | true=>
     cases Q:mF x.2.data.toList with
     | false=>
      have A:=Lib.hid (m.out (by rw [s.out,K,Q];rfl));go_wp2_with fail
      go_quiet ((go_at_call 160;exact Calls.quiet_of_same (jQ _ _ (by first | exact L | exact R))))
      go_wp2_with fail
      go_ret;exact eQ.mk false rfl A.out ((y.out.alloc y.out.size _).trans (bA _ _ _))
     | true=>
      cases Y:qT (l.take k) x.1 with
      | true=>
       have A:=Lib.hid (m.out (by rw [s.out,K,Q,Y];rfl));go_wp2_with fail
       go_region_with (first
        | (go_at_call 160;refine (jQ _ _ ?_).mono ?_;(first | exact L | exact R);rintro e D ⟨rfl,rfl⟩)
        | (go_at_call 161;refine (rF _ (l.take k) _ _ ?_ ?_).mono ?_;(exact t.out _ (g _));(rw [List.length_take];omega);rintro e w1 ⟨rfl,n⟩;have z:=Lib.hid ((g _).trans (n.mono (u _)));clear n))
       all_goals
        go_wp2_with fail
        go_ret;exact eQ.mk false rfl A.out z.out
      | false=>
       have A:Hid (mq l k=true):=by show _=_;rw [s.out,K,Q,Y];rfl
       go_wp2_with fail
       go_region_with (first
        | (go_at_call 160;refine (jQ _ _ ?_).mono ?_;(first | exact L | exact R);rintro e D ⟨rfl,rfl⟩)
        | (go_at_call 161;refine (rF _ (l.take k) _ _ ?_ ?_).mono ?_;(exact t.out _ (g _));(rw [List.length_take];omega);rintro e w1 ⟨rfl,n⟩;have z:=Lib.hid ((g _).trans (n.mono (u _)));clear n))
       all_goals
        go_wp2_with fail
        refine ⟨⟨k+1,by omega,by go_num,fun j J=>?_,z.out⟩,by simp [intOf];omega⟩
        by_cases e:j < k
        ·exact T.out j e
        ·rw [show j=k by omega,A.out]
   ·clear d;go_wp2
    go_ret;refine eQ.mk true rfl ?_ y.out;rw [S.out,List.all_eq_true];intro j J;exact T.out j (by have:=List.mem_range.1 J;omega)
structure bX where
 host:ByteArray
 doms:List ByteArray
 nets:List (Int×Int)
 users:List (ByteArray×ByteArray)
 most:Int
 size:Int
 waits:List Int
 life:Int
 room:Int
def jZ (w:World) (c:bX) (vD vN vU vW:Value):Prop:=
 bg w vD c.doms.length 1 (dK c.doms)∧bg w vN c.nets.length 2 (ik c.nets)∧bg w vU c.users.length 2 (cH c.users)∧bg w vW c.waits.length 1 (ib c.waits)
theorem jZ.below {w g:World} {c:bX} {b d e f:Value} (h:jZ w c b d e f) (a:Below w.heap.size w g):jZ g c b d e f:=⟨h.1.below a,h.2.1.below a,h.2.2.1.below a,h.2.2.2.below a⟩
def xt (c:bX):Prop:=
 c.host.size≤maxLen∧c.doms.length≤140737488351232∧(∀s∈c.doms,s.size≤maxLen)∧c.nets.length≤140737488351232∧c.users.length≤140737488351232∧(∀x∈c.users,x.1.size≤maxLen∧x.2.size≤maxLen)∧c.waits.length≤140737488351232
def bX.val (c:bX) (vD vN vU vW:Value):Value:= .agg #[.string c.host,vD,vN,vU,.int .i64 c.most,.int .i64 c.size,vW,.int .i64 c.life,.int .i64 c.room]
def ij (c:bX):Bool:=jj c.host.data.toList && oq c.doms && nr c.nets && kG c.users && cF c.most 1 10 && cF c.size 1 1000 && kI c.waits && cF c.life 1 1000000000 && cF c.room 0 1000000
theorem aE {w:World} {v:Value} {n d:Nat} {c:List Value} (h:bg w v n d c):∃a b,v= .slice a n b:=by
 obtain ⟨a,b,h,_⟩:=h.shape;exact ⟨a,b,h⟩
theorem Fq (c:bX) (vD vN vU vW:Value) (m:Int) (w:World) (h:jZ w c vD vN vU vW) (hz:xt c) (hm:w.cell? ⟨0,0,none⟩=some (.int .i64 m)):
  Calls Tryz.prog 68 #[.agg #[.string c.host,vD,vN,vU,.int .i64 c.most,.int .i64 c.size,vW,.int .i64 c.life,.int .i64 c.room]] w (eQ (ij c) w):=by
 obtain ⟨f,b,d,users,i,l,a,g,k⟩:=c;obtain ⟨z0,z1,z2,z3,z4,z5,N⟩:=hz;simp only at z0 z1 z2 z3 z4 z5 N h ⊢;have r:=Lib.hid (show ij ⟨f,b,d,users,i,l,a,g,k⟩=(jj f.data.toList && oq b && nr d && kG users && cF i 1 10 && cF l 1 1000 && kI a && cF g 1 1000000000 && cF k 0 1000000) from rfl)
 generalize ij ⟨f,b,d,users,i,l,a,g,k⟩=M at *
 obtain ⟨s,x,eD⟩:=aE h.1;obtain ⟨t,y,eN⟩:=aE h.2.1;obtain ⟨u,z,eU⟩:=aE h.2.2.1;obtain ⟨v,A,eW⟩:=aE h.2.2.2;simp only at eD eN eU eW;subst eD eN eU eW;have HA:=Lib.hid h;have h0:=aC hm;have Z2:=Lib.hid z2;have Z5:=Lib.hid z5;clear h z2 z5;go_enter Tryz.func68,Tryz.ntmps68;go_wp2_with fail
 have E:∀C:World,Below (w.heap.size+1) (w.alloc (.cells #[.string f,.slice s b.length x,.slice t d.length y,.slice u users.length z,.int .i64 i,.int .i64 l,.slice v a.length A,.int .i64 g,.int .i64 k] 30)) C→Below w.heap.size w C∧jZ C ⟨f,b,d,users,i,l,a,g,k⟩ (.slice s b.length x) (.slice t d.length y) (.slice u users.length z) (.slice v a.length A)∧C.cell? ⟨0,0,none⟩=some (.int .i64 m)∧∀j:Nat,C.cell? ⟨w.heap.size,j,none⟩=(#[.string f,.slice s b.length x,.slice t d.length y,.slice u users.length z,.int .i64 i,.int .i64 l,.slice v a.length A,.int .i64 g,.int .i64 k]:Array Value)[j]? :=by
  intro C hb;have K:Below w.heap.size w C:=((Below.refl _ _).alloc (Nat.le_refl _) _).trans (hb.mono (by omega));refine ⟨K,HA.out.below K,(K.cell h0).trans hm,fun j=>?_⟩;rw [hb.cell (p:=⟨w.heap.size,j,none⟩) (by show w.heap.size < w.heap.size+1;omega)];exact World.cell?_alloc_mark w _ 30 (0,0) j
 have R:=Lib.hid E;clear E HA hm;have S:Hid (Below (w.heap.size+1) (w.alloc (.cells #[.string f,.slice s b.length x,.slice t d.length y,.slice u users.length z,.int .i64 i,.int .i64 l,.slice v a.length A,.int .i64 g,.int .i64 k] 30)) (w.alloc (.cells #[.string f,.slice s b.length x,.slice t d.length y,.slice u users.length z,.int .i64 i,.int .i64 l,.slice v a.length A,.int .i64 g,.int .i64 k] 30))):=Below.refl _ _;have F:=R.out _ S.out;refine (iy f m _ z0 F.2.2.1).mono ?_;rintro e C ⟨rfl,T⟩;have H:Hid (Below (w.heap.size+1) (w.alloc (.cells #[.string f,.slice s b.length x,.slice t d.length y,.slice u users.length z,.int .i64 i,.int .i64 l,.slice v a.length A,.int .i64 g,.int .i64 k] 30)) C):=S.out.trans (T.mono (by simp));clear F T;have F:=R.out _ H.out;have X:=Lib.hid F.1;have c1:C.cell? ⟨w.heap.size,1,none⟩=some (.slice s b.length x):=F.2.2.2 1;have o:=Lib.hid F;clear F
 cases B:jj f.data.toList with
 | false=>
  go_wp2_with fail
  go_ret;exact eQ.mk false rfl (by rw [r.out,B];rfl) X.out
 | true=>
  go_wp2_with fail
  have F:=o.out;clear o;refine (qL _ b m _ F.2.1.1 z1 Z2.out F.2.2.1).mono ?_;rintro e w2 ⟨rfl,U⟩;have I:Hid (Below (w.heap.size+1) (w.alloc (.cells #[.string f,.slice s b.length x,.slice t d.length y,.slice u users.length z,.int .i64 i,.int .i64 l,.slice v a.length A,.int .i64 g,.int .i64 k] 30)) w2):=H.out.trans (U.mono (by have:=H.out.size;simpa using this));clear F U;have F:=R.out _ I.out;have Y:=Lib.hid F.1;have c2:w2.cell? ⟨w.heap.size,2,none⟩=some (.slice t d.length y):=F.2.2.2 2;have o:=Lib.hid F;clear F
  cases D:oq b with
  | false=>
   go_wp2_with fail
   go_ret;exact eQ.mk false rfl (by rw [r.out,B,D];rfl) Y.out
  | true=>
   go_wp2_with fail
   have F:=o.out;clear o;refine (wW _ d _ F.2.1.2.1 z3).mono ?_;rintro e w3 ⟨rfl,V⟩;have J:Hid (Below (w.heap.size+1) (w.alloc (.cells #[.string f,.slice s b.length x,.slice t d.length y,.slice u users.length z,.int .i64 i,.int .i64 l,.slice v a.length A,.int .i64 g,.int .i64 k] 30)) w3):=I.out.trans (V.mono (by have:=I.out.size;simpa using this));clear F V;have F:=R.out _ J.out;have Z:=Lib.hid F.1;have c3:w3.cell? ⟨w.heap.size,3,none⟩=some (.slice u users.length z):=F.2.2.2 3;have o:=Lib.hid F;clear F
   cases G:nr d with
   | false=>
    go_wp2_with fail
    go_ret;exact eQ.mk false rfl (by rw [r.out,B,D,G];rfl) Z.out
   | true=>
    go_wp2_with fail
    have F:=o.out;clear o;refine (wi _ users _ F.2.1.2.2.1 z4 Z5.out).mono ?_;rintro e Q ⟨rfl,W⟩;have a0:Hid (Below (w.heap.size+1) (w.alloc (.cells #[.string f,.slice s b.length x,.slice t d.length y,.slice u users.length z,.int .i64 i,.int .i64 l,.slice v a.length A,.int .i64 g,.int .i64 k] 30)) Q):=J.out.trans (W.mono (by have:=J.out.size;simpa using this));clear F W;have F:=R.out _ a0.out;have n:=Lib.hid F.1;have c4:Q.cell? ⟨w.heap.size,4,none⟩=some (.int .i64 i):=F.2.2.2 4;have c5:Q.cell? ⟨w.heap.size,5,none⟩=some (.int .i64 l):=F.2.2.2 5;have c6:Q.cell? ⟨w.heap.size,6,none⟩=some (.slice v a.length A):=F.2.2.2 6;have c7:Q.cell? ⟨w.heap.size,7,none⟩=some (.int .i64 g):=F.2.2.2 7;have c8:Q.cell? ⟨w.heap.size,8,none⟩=some (.int .i64 k):=F.2.2.2 8;have hW:=F.2.1.2.2.2;have O:=Lib.hid hW;clear hW;have o:=Lib.hid F;clear F
    cases L:kG users with
    | false=>
     go_wp2_with fail
     go_ret;exact eQ.mk false rfl (by rw [r.out,B,D,G,L];rfl) n.out
    | true=>
     go_wp2_with fail
     have F:=o.out;clear o;clear F
     cases P:cF i 1 10 with
     | false=>
      go_wp2_with (first | (go_at_call 108;refine (cB _ _ _ _).mono ?_;rintro e q ⟨rfl,rfl⟩) | (go_at_call 109;refine (gF _ a _ O.out N).mono ?_;rintro e q ⟨rfl,rfl⟩))
      go_ret;exact eQ.mk false rfl (by rw [r.out,B,D,G,L,P];rfl) n.out
     | true=>
      cases q5:cF l 1 1000 with
      | false=>
       go_wp2_with (first | (go_at_call 108;refine (cB _ _ _ _).mono ?_;rintro e q ⟨rfl,rfl⟩) | (go_at_call 109;refine (gF _ a _ O.out N).mono ?_;rintro e q ⟨rfl,rfl⟩))
       go_ret;exact eQ.mk false rfl (by rw [r.out,B,D,G,L,P,q5];rfl) n.out
      | true=>
       cases q6:kI a with
       | false=>
        go_wp2_with (first | (go_at_call 108;refine (cB _ _ _ _).mono ?_;rintro e q ⟨rfl,rfl⟩) | (go_at_call 109;refine (gF _ a _ O.out N).mono ?_;rintro e q ⟨rfl,rfl⟩))
        go_ret;exact eQ.mk false rfl (by rw [r.out,B,D,G,L,P,q5,q6];rfl) n.out
       | true=>
        cases q7:cF g 1 1000000000 with
        | false=>
         go_wp2_with (first | (go_at_call 108;refine (cB _ _ _ _).mono ?_;rintro e q ⟨rfl,rfl⟩) | (go_at_call 109;refine (gF _ a _ O.out N).mono ?_;rintro e q ⟨rfl,rfl⟩))
         go_ret;exact eQ.mk false rfl (by rw [r.out,B,D,G,L,P,q5,q6,q7];rfl) n.out
        | true=>
         cases q8:cF k 0 1000000 with
         | false=>
          go_wp2_with (first | (go_at_call 108;refine (cB _ _ _ _).mono ?_;rintro e q ⟨rfl,rfl⟩) | (go_at_call 109;refine (gF _ a _ O.out N).mono ?_;rintro e q ⟨rfl,rfl⟩))
          go_ret;exact eQ.mk false rfl (by rw [r.out,B,D,G,L,P,q5,q6,q7,q8];rfl) n.out
         | true=>
          go_wp2_with (first | (go_at_call 108;refine (cB _ _ _ _).mono ?_;rintro e q ⟨rfl,rfl⟩) | (go_at_call 109;refine (gF _ a _ O.out N).mono ?_;rintro e q ⟨rfl,rfl⟩))
          go_ret;exact eQ.mk true rfl (by rw [r.out,B,D,G,L,P,q5,q6,q7,q8];rfl) n.out
def JX (b:Bool):Int:=if b then 0 else 2
def zN (b:Bool) (w:World) (e:Ending) (w':World):Prop:=e= .returned (.int .i64 (JX b))∧Below w.heap.size w w'
theorem zN.mk {b:Bool} {w:World} {e:Ending} {a:World} (c:Bool) (f:e= .returned (.int .i64 (JX c))) (d:b=c) (g:Below w.heap.size w a):zN b w e a:=⟨by rw [f,d],g⟩
theorem EH (c:bX) (l n o p:Value) (m:Int) (w:World) (h:jZ w c l n o p) (k:xt c) (b:w.cell? ⟨0,0,none⟩=some (.int .i64 m)):
  Calls Tryz.prog 42 #[.agg #[.string c.host,l,n,o,.int .i64 c.most,.int .i64 c.size,p,.int .i64 c.life,.int .i64 c.room]] w (zN (ij c) w):=by
 obtain ⟨x,B,q⟩:=aE h.1;obtain ⟨y,C,r⟩:=aE h.2.1;obtain ⟨z,D,s⟩:=aE h.2.2.1;obtain ⟨A,E,t⟩:=aE h.2.2.2;subst q r s t;have d:=Lib.hid h;have i:=Lib.hid k;have u:=aC b;have g:=Lib.hid b;clear h k b;go_enter Tryz.func42,Tryz.ntmps42;go_wp2_with fail
 refine (Fq c _ _ _ _ m _ (d.out.below ((Below.refl _ _).alloc (Nat.le_refl _) _)) i.out ?_).mono ?_
 ·exact (((Below.refl w.heap.size w).alloc (Nat.le_refl _) _).cell u).trans g.out
 rintro e v ⟨rfl,a⟩;have f:Hid (Below w.heap.size w v):=((Below.refl _ _).alloc (Nat.le_refl _) _).trans (a.mono (by simp));clear a d i g
 cases j:ij c with
 | false=>
  go_wp2_with fail
  go_ret;exact zN.mk false rfl j f.out
 | true=>
  go_wp2_with fail
  go_ret;exact zN.mk true rfl j f.out
theorem fE (s:ByteArray):s.data.toList.length=s.size:=by simp
def hZ (l:List UInt8) (k:Nat):Bool:=l[k]? == some 13 && l[k+1]? == some 10
def gf (l:List UInt8):List UInt8×List UInt8:=
 match (List.range l.length).find? (hZ l) with
 | some k=>(l.take k,l.drop (k+2))
 | none=>(l,[])
theorem yh {l:List UInt8} {k:Nat} (h:hZ l k=true) (c:∀j,j < k→hZ l j=false):gf l=(l.take k,l.drop (k+2)):=by
 have b:k < l.length:=by
  unfold hZ at h;rw [Bool.and_eq_true] at h
  by_cases e:k < l.length
  ·exact e
  ·rw [List.getElem?_eq_none (by omega)] at h
   cases h.1
 unfold gf;rw [List.find?_range_eq_some.2 ⟨h,List.mem_range.2 b,fun j a=>by rw [c j a];rfl⟩]
theorem FU {l:List UInt8} (a:∀j,hZ l j=false):gf l=(l,[]):=by
 unfold gf;rw [List.find?_range_eq_none.2 fun j _=>by rw [a j];rfl]
theorem GA {s:ByteArray} {k:Nat} (d:k < s.size) (e:k+1 < s.size) (a:(((s[k]).toNat:Int) == 13)=true) (c:(((s[k+1]).toNat:Int) == 10)=true):hZ s.data.toList k=true:=by
 unfold hZ;rw [mU s k d,mU s (k+1) e,yG (b:=13) rfl a,yG (b:=10) rfl c];rfl
theorem Gy {s:ByteArray} {k:Nat} (c:k < s.size) (a:(((s[k]).toNat:Int) == 13)=false):hZ s.data.toList k=false:=by
 unfold hZ;rw [mU s k c,Bool.and_eq_false_iff]
 left
 have:=yH (b:=13) rfl a;simpa using this
theorem Gz {s:ByteArray} {k:Nat} (c:k+1 < s.size) (a:(((s[k+1]).toNat:Int) == 10)=false):hZ s.data.toList k=false:=by
 unfold hZ;rw [mU s (k+1) c,Bool.and_eq_false_iff]
 right
 have:=yH (b:=10) rfl a;simpa using this
theorem Gx {s:ByteArray} {k:Nat} (h:¬k+1 < s.size):hZ s.data.toList k=false:=by
 unfold hZ;rw [Bool.and_eq_false_iff]
 right
 rw [List.getElem?_eq_none (by rw [fE];omega)];rfl
def pr (l:List UInt8) (w:World) (e:Ending) (w':World):Prop:=
 e= .returned (.tuple #[.string ⟨(gf l).1.toArray⟩,.string ⟨(gf l).2.toArray⟩])∧∃n,w'=w.drewN n
theorem pr.mk {l:List UInt8} {w:World} {e:Ending} {a:World} (x y:ByteArray) (c:e= .returned (.tuple #[.string x,.string y])) (b:gf l=(x.data.toList,y.data.toList)) (n:Nat) (d:a=w.drewN n):pr l w e a:=by
 refine ⟨?_,n,d⟩;rw [b,c]
theorem wO (s:ByteArray) (w:World) (n:s.size≤4294967296):
  Calls Tryz.prog 15 #[.string s] w (pr s.data.toList w):=by
 go_enter Tryz.func15,Tryz.ntmps15;go_wp2_with fail
 go_loop [4] (fun i=>∃k:Nat,k≤s.size∧i= .int .i64 k∧Hid (∀j:Nat,j < k→hZ s.data.toList j=false)) (fun i=>s.size - (intOf i).toNat)
 case atStart=>exact ⟨0,Nat.zero_le _,rfl,fun j l=>by omega⟩
 case round=>
  obtain ⟨k,m,rfl,f⟩:=hrel;have o:IntKind.i64.wrap ((k:Int)+1)=(k:Int)+1:=by rw [IntKind.wrap_i64];omega
  by_cases c:k+1 < s.size
  ·have a:k < s.size:=by omega
   have d:(k:Int)+1 < (s.size:Int):=by omega
   by_cases g:(((s[k]).toNat:Int) == 13)=true
   ·by_cases h:(((s[k+1]).toNat:Int) == 10)=true
    ·have b:=Lib.hid (GA a c g h);go_wp2_with fail
     go_region
     go_wp2_with fail
     go_ret2
     refine pr.mk _ _ rfl ?_ 1 rfl;rw [yh b.out f.out,Lib.extract_data,Lib.extract_to_end];rfl
    ·have h:=Bool.eq_false_iff.2 h;have b:=Lib.hid (Gz c h);go_wp2_with fail
     exact ⟨⟨k+1,by omega,by go_num,Lib.hid fun j l=>by
      by_cases e:j < k
      ·exact f.out j e
      ·obtain rfl:j=k:=by omega
       exact b.out⟩,by simp [intOf];omega⟩
   ·have g:=Bool.eq_false_iff.2 g;have b:=Lib.hid (Gy a g);go_wp2_with fail
    exact ⟨⟨k+1,by omega,by go_num,Lib.hid fun j l=>by
     by_cases e:j < k
     ·exact f.out j e
     ·obtain rfl:j=k:=by omega
      exact b.out⟩,by simp [intOf];omega⟩
  ·have d:¬(k:Int)+1 < (s.size:Int):=by omega
   go_wp2_with fail
   go_ret2
   refine pr.mk s ⟨#[]⟩ rfl (FU fun j=>?_) 0 rfl
   by_cases l:j < k
   ·exact f.out j l
   ·exact Gx (by omega)
def bu (l t:List UInt8):Bool:=decide (t.length≤l.length) && (Lib.toUpperA (l.take t.length) == t)
theorem EB {l t:List UInt8} {k:Nat} (b:k < t.length) (c:t.length≤l.length) (a:Lib.upperB (l.getD k 0)≠t.getD k 0):bu l t=false:=by
 unfold bu;rw [Bool.and_eq_false_iff]
 right
 rw [←Bool.not_eq_true,beq_iff_eq];intro e;apply a;rw [←e];unfold Lib.toUpperA;rw [List.getD_eq_getElem?_getD,List.getD_eq_getElem?_getD,List.getElem?_map,List.getElem?_take_of_lt b,List.getElem?_eq_getElem (by omega:k < l.length)];rfl
theorem Ck {l t:List UInt8} (b:t.length≤l.length) (h:∀j,j < t.length→Lib.upperB (l.getD j 0)=t.getD j 0):bu l t=true:=by
 unfold bu;rw [Bool.and_eq_true,decide_eq_true_eq,beq_iff_eq];refine ⟨b,List.ext_getElem (by unfold Lib.toUpperA;rw [List.length_map,List.length_take];omega) fun j c a=>?_⟩;have:=h j a;rw [List.getD_eq_getElem?_getD,List.getD_eq_getElem?_getD,List.getElem?_eq_getElem (by omega:j < l.length),List.getElem?_eq_getElem a] at this;have e:(Lib.toUpperA (l.take t.length))[j]=Lib.upperB l[j]:=by simp [Lib.toUpperA]
 rw [e];exact this
theorem JL {c:UInt8} (h:¬(97≤(c.toNat:Int)∧(c.toNat:Int)≤122)):Lib.upperB c=c:=by
 unfold Lib.upperB Lib.isLowerB;rw [if_neg];simp only [Bool.and_eq_true,decide_eq_true_eq,UInt8.le_iff_toNat_le];intro a;apply h;have b:(97:UInt8).toNat=97:=rfl;have d:(122:UInt8).toNat=122:=rfl;omega
theorem IU {c:UInt8} (h:97≤(c.toNat:Int)∧(c.toNat:Int)≤122):((Lib.upperB c).toNat:Int)=(c.toNat:Int) - 32:=by
 unfold Lib.upperB Lib.isLowerB;have a:(97:UInt8).toNat=97:=rfl;have b:(122:UInt8).toNat=122:=rfl;rw [if_pos]
 ·have d:(32:UInt8).toNat=32:=rfl;rw [UInt8.toNat_sub];omega
 ·simp only [Bool.and_eq_true,decide_eq_true_eq,UInt8.le_iff_toNat_le];omega
theorem Eh (s:ByteArray) (k:Nat) (h:k < s.size):s.data.toList.getD k 0=s[k]:=by rw [List.getD_eq_getElem?_getD,mU s k h];rfl
theorem uu (s t:ByteArray) (w:World) (N:s.size≤4294967296) (_:t.size≤4294967296):
  Calls Tryz.prog 53 #[.string s,.string t] w fun e L=>e= .returned (.bool (bu s.data.toList t.data.toList))∧w=L:=by
 obtain ⟨B,v⟩:∃B,bu s.data.toList t.data.toList=B:=⟨_,rfl⟩;rw [v];have g:=Lib.hid v;clear v
 by_cases F:s.size < t.size
 ·have D:(s.size:Int) < (t.size:Int):=by omega
  have l:Hid (B=false):=Lib.hid (by
   rw [←g.out];unfold bu;rw [Bool.and_eq_false_iff]
   left
   rw [fE,fE,decide_eq_false_iff_not]
   omega)
  go_enter Tryz.func53,Tryz.ntmps53;go_wp2_with fail
  go_ret;exact ⟨by rw [l.out];rfl,rfl⟩
 ·have D:¬(s.size:Int) < (t.size:Int):=by omega
  go_enter Tryz.func53,Tryz.ntmps53;go_wp2_with fail
  go_loop [5] (fun i=>∃k:Nat,k≤t.size∧i= .int .i64 k∧Hid (∀j:Nat,j < k→Lib.upperB (s.data.toList.getD j 0)=t.data.toList.getD j 0)) (fun i=>t.size - (intOf i).toNat)
  case atStart=>exact ⟨0,Nat.zero_le _,rfl,fun j y=>by omega⟩
  case round=>
   obtain ⟨k,M,rfl,E⟩:=hrel
   by_cases n:k < t.size
   ·have o:k < s.size:=by omega
    have p:(k:Int) < (t.size:Int):=by omega
    have b:t.data.toList.length≤s.data.toList.length:=by rw [fE,fE];omega
    have z:k < t.data.toList.length:=by rw [fE];exact n
    obtain ⟨c,J⟩:∃c,s[k]=c:=⟨_,rfl⟩;obtain ⟨d,K⟩:∃d,t[k]=d:=⟨_,rfl⟩;have g1:=Eh s k o;have g2:=Eh t k n;rw [J] at g1;rw [K] at g2;obtain ⟨u,f⟩:∃u,Lib.upperB c=u:=⟨_,rfl⟩;have r:=Lib.hid b;have q:=Lib.hid z
    by_cases e:u=d
    ·have m:Hid (∀j:Nat,j < k+1→Lib.upperB (s.data.toList.getD j 0)=t.data.toList.getD j 0):=Lib.hid fun j y=>by
      by_cases G:j < k
      ·exact E.out j G
      ·obtain rfl:j=k:=by omega
       rw [g1,g2,f,e]
     by_cases h:97≤(c.toNat:Int)∧(c.toNat:Int)≤122
     ·have a:=IU h;rw [f,e] at a;have H:IntKind.u8.wrap ((c.toNat:Int) - 32)=(d.toNat:Int):=by rw [IntKind.wrap_u8];omega
      obtain ⟨A,C⟩:=h;clear g1 g2 b f e a;go_wp2_with fail
      exact ⟨⟨k+1,by omega,by go_num,m⟩,by simp [intOf];omega⟩
     ·have a:=JL h;rw [f,e] at a;subst a;clear g1 g2 b f e;go_wp2_with fail
      all_goals exact ⟨⟨k+1,by omega,by go_num,m⟩,by simp [intOf];omega⟩
    ·have l:Hid (B=false):=Lib.hid (by
      rw [←g.out]
      exact EB q.out r.out (by rw [g1,g2,f];exact e))
     by_cases h:97≤(c.toNat:Int)∧(c.toNat:Int)≤122
     ·have a:=IU h;rw [f] at a;have H:IntKind.u8.wrap ((c.toNat:Int) - 32)=(u.toNat:Int):=by rw [IntKind.wrap_u8];omega
      have I:¬(u.toNat:Int)=(d.toNat:Int):=fun x=>e (UInt8.toNat_inj.1 (by omega));obtain ⟨A,C⟩:=h;clear g1 g2 b f e a;go_wp2_with fail
      go_ret;exact ⟨by rw [l.out];rfl,rfl⟩
     ·have a:=JL h;rw [f] at a;subst a;have I:¬(u.toNat:Int)=(d.toNat:Int):=fun x=>e (UInt8.toNat_inj.1 (by omega));clear g1 g2 b f e;go_wp2_with fail
      all_goals
       go_ret;exact ⟨by rw [l.out];rfl,rfl⟩
   ·have p:¬(k:Int) < (t.size:Int):=by omega
    have l:Hid (B=true):=Lib.hid (by
     rw [←g.out];refine Ck (by rw [fE,fE];omega) fun j y=>E.out j ?_;rw [fE] at y
     omega)
    go_wp2_with fail
    go_ret;exact ⟨by rw [l.out];rfl,rfl⟩
def ET (l:List UInt8):List UInt8:=(cz 64 l).2.1
theorem uv (s:ByteArray) (w:World) (p:s.size≤4294967296):
  Calls Tryz.prog 85 #[.string s] w fun e n=>e= .returned (.string ⟨(ET s.data.toList).toArray⟩)∧w=n:=by
 go_enter Tryz.func85,Tryz.ntmps85;go_wp2_with fail
 go_loop [3] (fun i=>∃k:Nat,k≤s.size∧i= .int .i64 k∧Hid (∀j:Nat,j < k→s.data.toList[j]? ≠some 64)) (fun i=>s.size - (intOf i).toNat)
 case atStart=>exact ⟨0,Nat.zero_le _,rfl,fun j g=>by omega⟩
 case round=>
  obtain ⟨k,o,rfl,f⟩:=hrel
  by_cases l:k < s.size
  ·have a:(k:Int) < (s.size:Int):=by omega
   have m:Hid (s.data.toList[k]? =some s[k]):=mU s k l
   by_cases c:(((s[k]).toNat:Int) == 64)=true
   ·have d:=Lib.hid (yG (b:=64) rfl c);go_wp2_with fail
    go_ret;refine ⟨?_,rfl⟩;unfold ET;rw [yS 64 s.data.toList k (by rw [m.out,d.out]) f.out]
    congr 2
    rw [←Lib.extract_to_end];rfl
   ·have c:=Bool.eq_false_iff.2 c;have d:=Lib.hid (yH (b:=64) rfl c);go_wp2_with fail
    exact ⟨⟨k+1,by omega,by go_num,Lib.hid fun j g=>by
     by_cases e:j < k
     ·exact f.out j e
     ·obtain rfl:j=k:=by omega
      rw [m.out];intro h
      exact d.out (Option.some.inj h)⟩,by simp [intOf];omega⟩
  ·have a:¬(k:Int) < (s.size:Int):=by omega
   go_wp2_with fail
   go_ret;refine ⟨?_,rfl⟩;unfold ET
   rw [sW 64 _ (fun j=>by
    by_cases g:j < k
    ·exact f.out j g
    ·rw [List.getElem?_eq_none (by simp;omega)];simp)]
   rfl
def mH (n:Nat) (c:UInt8):Nat:=if 48≤c.toNat∧c.toNat≤57 then 10 * n+(c.toNat - 48) else n
def kB (l:List UInt8):Nat:=(l.drop 4).foldl mH 0
theorem Js (l:List UInt8):∀n,n≤l.foldl mH n:=by
 induction l with
 | nil=>exact fun n=>Nat.le_refl _
 | cons c r ih=>
  intro n;refine Nat.le_trans ?_ (ih _);unfold mH
  split <;> omega
theorem Fx (l:List UInt8) (k:Nat):kB (l.take k)≤kB l:=by
 have e:l.drop 4=(l.take k).drop 4++(l.drop 4).drop (k - 4):=by
  rw [List.drop_take];exact (List.take_append_drop _ _).symm
 unfold kB;rw [e,List.foldl_append];exact Js _ _
theorem Fw {l:List UInt8} {k:Nat} (a:k < l.length):kB (l.take (k+1))=if 3 < k then mH (kB (l.take k)) l[k] else 0:=by
 unfold kB;rw [List.take_succ_eq_append_getElem a]
 by_cases h:3 < k
 ·rw [if_pos h,List.drop_append_of_le_length (by rw [List.length_take];omega),List.foldl_append];rfl
 ·rw [if_neg h,List.drop_eq_nil_of_le (by rw [List.length_append,List.length_take];simp;omega)];rfl
theorem o7 {l:List UInt8} {k:Nat} (a:¬3 < k):kB (l.take k)=0:=by
 unfold kB;rw [List.drop_eq_nil_of_le (by rw [List.length_take];omega)];rfl
theorem nh (s:ByteArray) (w:World) (H:s.size≤4294967296) (u:kB s.data.toList≤1000000000000):
  Calls Tryz.prog 16 #[.string s] w fun e A=>e= .returned (.int .i64 (kB s.data.toList:Nat))∧w=A:=by
 obtain ⟨N,o⟩:∃N,kB s.data.toList=N:=⟨_,rfl⟩;rw [o] at u ⊢;have q:=Lib.hid o;have y:Hid (∀k,kB (s.data.toList.take k)≤1000000000000):=Lib.hid fun k=>Nat.le_trans (Fx _ _) (by rw [o];exact u);clear o u;go_enter Tryz.func16,Tryz.ntmps16;go_wp2_with fail
 go_loop [3,4] (fun n i=>∃k m:Nat,k≤s.size∧i= .int .i64 k∧n= .int .i64 m∧Hid (kB (s.data.toList.take k)=m)) (fun _ i=>s.size - (intOf i).toNat)
 case atStart=>exact ⟨0,0,Nat.zero_le _,rfl,rfl,Lib.hid (o7 (by decide))⟩
 case round=>
  obtain ⟨k,m,G,rfl,rfl,l⟩:=hrel
  by_cases h:k < s.size
  ·have j:(k:Int) < (s.size:Int):=by omega
   have g:k < s.data.toList.length:=by rw [fE];exact h
   have p:s.data.toList[k]=s[k]:=by have:=mU s k h;rw [List.getElem?_eq_getElem g] at this;exact Option.some.inj this
   have a:=Fw g;rw [p,l.out] at a;have b:=y.out (k+1);obtain ⟨c,z⟩:∃c,s[k]=c:=⟨_,rfl⟩;rw [z] at a
   by_cases f:48≤(c.toNat:Int)∧(c.toNat:Int)≤57
   ·by_cases F:(3:Int) < (k:Int)
    ·rw [if_pos (by omega)] at a;unfold mH at a;rw [if_pos (by omega)] at a;rw [a] at b;have B:IntKind.u8.wrap ((c.toNat:Int) - 48)=(c.toNat:Int) - 48:=by rw [IntKind.wrap_u8];omega
     have C:IntKind.i64.wrap ((c.toNat:Int) - 48)=(c.toNat:Int) - 48:=by rw [IntKind.wrap_i64];omega
     have D:IntKind.i64.wrap (10 * (m:Int))=10 * (m:Int):=by rw [IntKind.wrap_i64];omega
     have E:IntKind.i64.wrap (10 * (m:Int)+((c.toNat:Int) - 48))=((10 * m+(c.toNat - 48):Nat):Int):=by rw [IntKind.wrap_i64];omega
     have d:=Lib.hid a;obtain ⟨r,v⟩:=f;clear a b p;go_wp2_with fail
     exact ⟨⟨k+1,_,by omega,by go_num,rfl,d⟩,by simp [intOf];omega⟩
    ·rw [if_neg (by omega)] at a;have t:m=0:=by rw [←l.out];exact o7 (by omega)
     subst t;have d:=Lib.hid a;obtain ⟨r,v⟩:=f;clear a b p;go_wp2_with fail
     exact ⟨⟨k+1,0,by omega,by go_num,rfl,d⟩,by simp [intOf];omega⟩
   ·have d:Hid (kB (s.data.toList.take (k+1))=m):=Lib.hid (by
     rw [a]
     split
     ·unfold mH;rw [if_neg (by omega)]
     ·rw [←l.out];exact (o7 (by omega)).symm)
    clear a b p
    by_cases r:48≤(c.toNat:Int)
    ·have v:¬(c.toNat:Int)≤57:=fun x=>f ⟨r,x⟩;clear f;go_wp2_with fail
     exact ⟨⟨k+1,m,by omega,by go_num,rfl,d⟩,by simp [intOf];omega⟩
    ·clear f;go_wp2_with fail
     exact ⟨⟨k+1,m,by omega,by go_num,rfl,d⟩,by simp [intOf];omega⟩
  ·have j:¬(k:Int) < (s.size:Int):=by omega
   have d:Hid (m=N):=Lib.hid (by
    rw [←l.out,←q.out,List.take_of_length_le (by rw [fE];omega)])
   go_wp2_with fail
   go_ret;exact ⟨by rw [d.out];rfl,rfl⟩
theorem bg.elem {w:World} {a:Option Addr} {n m d:Nat} {g:List Value} (h:bg w (.slice a n d) m 1 g) (k:Nat) (j:k < m):∃b c,a=some ⟨b,c,none⟩∧b < w.heap.size∧w.cell? ⟨b,c+k,none⟩=g[k]? :=by
 obtain ⟨l,f,e,i⟩:=h.one;injection e with e1 e2 e3;subst e1;exact i k j
def jb (l:List UInt8):List UInt8×Bool:=((fq l).1++64::(fq l).2.1,(fq l).2.2)
theorem xv (l:List UInt8):(fq l).1.length≤20∧(fq l).2.1.length≤40:=by
 unfold fq
 split
 ·rename_i h
  simp only [Bool.and_eq_true] at h;obtain ⟨a,b⟩:=h;simp only [p8,jj,Bool.and_eq_true,decide_eq_true_eq] at a b;simp only [Lib.toLowerA,List.length_map];omega
 ·simp
def nM (q:Nat→Nat) (i:Nat):MapEntry:=⟨.int .i64 ((i:Int)+1),.pointer (some ⟨q i,0,none⟩),i⟩
def cO (q:Nat→Nat) (l:List Nat):Array MapEntry:=(l.map (nM q)).toArray
def gh (w:World) (b:Nat) (q:Nat→Nat) (l:List Nat) (c:Nat):Prop:=w.heap[b]? =some (.map (cO q l) c)
theorem Ef (q:Nat→Nat) {i j:Nat} (h:(nM q i).key= .int .i64 ((j:Int)+1)):i=j:=by
 unfold nM at h;simp only [Value.int.injEq,true_and] at h;omega
theorem cT (q:Nat→Nat) (l:List Nat):(cO q l).toList=l.map (nM q):=by simp [cO]
theorem CC {q a:Nat→Nat} {l:List Nat} (h:∀i∈l,q i=a i):cO q l=cO a l:=by
 unfold cO
 congr 1
 exact List.map_congr_left fun i d=>by unfold nM;rw [h i d]
section
variable {P:Program} {k e t:TypeId} {w:World} {b c:Nat} {q:Nat→Nat} {l:List Nat}
theorem xC (f:P.underlying k=some (.int .i64)) (q:Nat→Nat) (l:List Nat) (g:∀i∈l,i < 4294967296):∀x∈l.map (nM q),∃y,keyOf P k x.key=some y:=by
 intro x h;obtain ⟨i,d,rfl⟩:=List.mem_map.1 h;exact ⟨_,Maps.keyOf_int_mk f (a:=(i:Int)+1) (WalkArith.wf_i64 (by have:=g i d;omega))⟩
theorem sY (g:P.underlying k=some (.int .i64)) (p:∀i∈l,i < 4294967296) (j:Nat) (u:j < 4294967296):
  (j ∉ l→(Instr.findKey k (.int .i64 ((j:Int)+1)) (l.map (nM q))).run P w= .ok none w)∧
  (j∈l→∃n,(Instr.findKey k (.int .i64 ((j:Int)+1)) (l.map (nM q))).run P w= .ok (some (n,.pointer (some ⟨q j,0,none⟩))) w∧l[n]? =some j):=by
 have a:keyOf P k (.int .i64 ((j:Int)+1))=some (.int .i64 ((j:Int)+1)):=Maps.keyOf_int_mk g (WalkArith.wf_i64 (by omega))
 rcases (Maps.int_keyed g).find w a (l.map (nM q)) (xC g q l p) with ⟨f,d⟩ | ⟨n,x,f,d,o⟩
 ·exact ⟨fun _=>f,fun r=>absurd rfl (d (nM q j) (List.mem_map.2 ⟨j,r,rfl⟩))⟩
 ·rw [List.getElem?_map,Option.map_eq_some_iff] at d;obtain ⟨i,h,rfl⟩:=d;have m:=Ef q o;subst m;exact ⟨fun s=>absurd (List.mem_of_getElem? h) s,fun _=>⟨n,f,h⟩⟩
theorem pC (d:P.underlying k=some (.int .i64)) (j:Nat) (f:j < 4294967296) (a:Bool):(Instr.checkKey a 10000 k (.int .i64 ((j:Int)+1))).run P w= .ok () w:=
 (Maps.int_keyed d).check w a (Maps.keyOf_int_mk d (WalkArith.wf_i64 (by omega)))
theorem ig (d:P.underlying k=some (.int .i64)) (p:P.underlying t=some (.map k e)) (h:gh w b q l c) (m:∀i∈l,i < 4294967296) (j:Nat) (a:j < 4294967296) (o:j∈l) (f:Bool):
  (Instr.lookup t (.map (some b)) (.int .i64 ((j:Int)+1)) f).run P w= .ok (if f then .tuple #[.pointer (some ⟨q j,0,none⟩),.bool true] else .pointer (some ⟨q j,0,none⟩)) w:=by
 obtain ⟨n,g,_⟩:=(sY (w:=w) (q:=q) d m j a).2 o;simp [Instr.lookup,run_underlying p,MapKept.run_getObj_map h,pC d j a,cT,g,Result.andThen]
theorem rM (d:P.underlying k=some (.int .i64)) (o:P.underlying t=some (.map k e)) (p:(zeroValue e).run P w= .ok (.pointer none) w) (h:gh w b q l c) (m:∀i∈l,i < 4294967296) (j:Nat) (a:j < 4294967296) (n:j ∉ l) (f:Bool):
  (Instr.lookup t (.map (some b)) (.int .i64 ((j:Int)+1)) f).run P w= .ok (if f then .tuple #[.pointer none,.bool false] else .pointer none) w:=by
 have g:=(sY (w:=w) (q:=q) d m j a).1 n;simp [Instr.lookup,run_underlying o,MapKept.run_getObj_map h,pC d j a,cT,g,p,Result.andThen]
theorem wT (f:P.underlying k=some (.int .i64)) (p:P.underlying t=some (.map k e)) (r:(zeroValue e).run P w= .ok (.pointer none) w) (h:gh w b q l c) (o:∀i∈l,i < 4294967296) (m:Bool):
  (Instr.lookup t (.map (some b)) (.int .i64 0) m).run P w= .ok (if m then .tuple #[.pointer none,.bool false] else .pointer none) w:=by
 have a:keyOf P k (.int .i64 0)=some (.int .i64 0):=Maps.keyOf_int_mk f (WalkArith.wf_i64 (by omega))
 have d:(Instr.findKey k (.int .i64 0) (l.map (nM q))).run P w= .ok none w:=by
  rcases (Maps.int_keyed f).find w a (l.map (nM q)) (xC f q l o) with ⟨d,g⟩ | ⟨n,x,d,g,j⟩
  ·exact d
  ·rw [List.getElem?_map,Option.map_eq_some_iff] at g;obtain ⟨i,s,rfl⟩:=g;unfold nM at j;simp only [Value.int.injEq,true_and] at j;omega
 simp [Instr.lookup,run_underlying p,MapKept.run_getObj_map h,(Maps.int_keyed f).check w _ a,cT,d,r,Result.andThen]
theorem Jl (f:P.underlying k=some (.int .i64)) (s:P.underlying t=some (.map k e)) (h:gh w b q l c) (g:∀i∈l,i < c) (u:c < 4294967295) (p:Nat) (a:Nat→Nat) (r:∀i∈l,a i=q i) (o:a c=p):
  (Instr.mapUpdate t (.map (some b)) (.int .i64 ((c:Int)+1)) (.pointer (some ⟨p,0,none⟩))).run P w= .ok () (ChangeMaps.setBlock w b (.map (cO a (l++[c])) (c+1))):=by
 have m:=(sY (w:=w) (q:=q) f (fun i d=>by have:=g i d;omega) c (by omega)).1 (fun n=>by have:=g c n;omega)
 have j:(cO q l).push ⟨.int .i64 ((c:Int)+1),.pointer (some ⟨p,0,none⟩),c⟩=cO a (l++[c]):=by
  rw [CC (fun i d=>(r i d).symm)];unfold cO;rw [List.map_append,List.push_toArray];simp [nM,o]
 simp [Instr.mapUpdate,run_underlying s,MapKept.run_getObj_map h,pC f c (by omega),cT,m,MapKept.run_setObj_map _ h,Result.andThen,ChangeMaps.setBlock,j]
theorem CF {l:List Nat} (a:l.Nodup) {n j:Nat} (h:l[n]? =some j):l.eraseIdx n=l.filter fun i=>decide (i≠j):=by
 induction l generalizing n with
 | nil=>simp at h
 | cons x l ih=>
  rw [List.nodup_cons] at a
  cases n with
  | zero=>
   simp only [List.getElem?_cons_zero,Option.some.injEq] at h;subst h;rw [List.eraseIdx_cons_zero,List.filter_cons];simp only [ne_eq,not_true_eq_false,decide_false,Bool.false_eq_true,if_false];refine (List.filter_eq_self.2 fun i d=>?_).symm;have:i≠x:=fun e=>a.1 (e ▸ d);simpa using this
  | succ n=>
   simp only [List.getElem?_cons_succ] at h;have f:x≠j:=fun e=>a.1 (e ▸ List.mem_of_getElem? h);rw [List.eraseIdx_cons_succ,List.filter_cons,if_pos (by simpa using f),ih a.2 h]
theorem Bg {x:TypeId} (g:P.underlying k=some (.int .i64)) (v:P.underlying t=some (.map k e)) (h:gh w b q l c) (p:∀i∈l,i < 4294967296) (s:l.Nodup) (j:Nat) (f:j < 4294967296) (r:j∈l):
  (Builtin.delete_ #[t,k] x #[.map (some b),.int .i64 ((j:Int)+1)]).run P w= .ok (.tuple #[]) (ChangeMaps.setBlock w b (.map (cO q (l.filter fun i=>decide (i≠j))) c)):=by
 obtain ⟨n,o,d⟩:=(sY (w:=w) (q:=q) g p j f).2 r;have a:n < l.length:=(List.getElem?_eq_some_iff.1 d).1
 have m:(cO q l).eraseIdxIfInBounds n=cO q (l.filter fun i=>decide (i≠j)):=by
  rw [←CF s d];have u:n < (cO q l).size:=by simpa [cO] using a
  apply Array.toList_inj.1;unfold Array.eraseIdxIfInBounds;rw [dif_pos u,Array.toList_eraseIdx,cT,cT,←ChangeMaps.map_eraseIdx]
 simp [Builtin.delete_,run_underlying v,MapKept.run_getObj_map h,pC g j f,cT,o,MapKept.run_setObj_map _ h,Result.andThen,ChangeMaps.setBlock,m]
end
def iZ (addr:Int) (x:Int×Int):Bool:=decide (addr / 2 ^ (32 - x.2).toNat=x.1 / 2 ^ (32 - x.2).toNat)
theorem AK (c:bX) (O P Q R:Value) (a:Int) (w:World) (h:jZ w c O P Q R) (hn:c.nets.length≤5) (K:∀x∈c.nets,0≤x.2∧x.2≤32):
  Calls Tryz.prog 61 #[.agg #[.string c.host,O,P,Q,.int .i64 c.most,.int .i64 c.size,R,.int .i64 c.life,.int .i64 c.room],.int .i64 a] w fun e B=>e= .returned (.bool (c.nets.any (iZ a)))∧Below w.heap.size w B:=by
 obtain ⟨U,Y,eD⟩:=aE h.1;obtain ⟨W,cU,eU⟩:=aE h.2.2.1;obtain ⟨X,cW,eW⟩:=aE h.2.2.2;obtain ⟨V,Z,eN,J⟩:=h.2.1.shape;subst eD eN eU eW;obtain ⟨y,m⟩:∃y:World,w.alloc (.cells #[.string c.host,.slice U c.doms.length Y,.slice V c.nets.length Z,.slice W c.users.length cU,.int .i64 c.most,.int .i64 c.size,.slice X c.waits.length cW,.int .i64 c.life,.int .i64 c.room] 30)=y:=⟨_,rfl⟩;have C:Below w.heap.size w y:=by rw [←m];exact (Below.refl _ _).alloc (Nat.le_refl _) _
 have F:=Lib.hid J;have S:=Lib.hid K;have s:=Lib.hid C;have v:=Lib.hid m;clear h J K C m;go_enter Tryz.func61,Tryz.ntmps61;go_wp2_with fail
 rw [v.out];go_loopw [6,7,11] (fun _ _ i B=>∃k:Nat,k≤c.nets.length∧i= .int .i64 k∧Hid ((c.nets.take k).any (iZ a)=false)∧Hid (Below w.heap.size w B)) (fun _ _ i _=>c.nets.length - (intOf i).toNat)
 case atStart=>exact ⟨0,Nat.zero_le _,rfl,Lib.hid rfl,s⟩
 case round=>
  obtain ⟨k,hk,rfl,t,o⟩:=hrel
  by_cases g:k < c.nets.length
  ·have L:(k:Int) < (c.nets.length:Int):=by omega
   obtain ⟨b,r,rfl,p,f⟩:=F.out k 0 g (by omega);obtain ⟨b',N,z,_,d⟩:=F.out k 1 g (by omega);injection z with z;injection z with e1 e2 _;subst e1 e2;rw [Nat.add_zero,Hw c.nets k g] at f;rw [Eo c.nets k g] at d;have q:=S.out c.nets[k] (List.getElem_mem g);have G:Hid ((c.nets.take (k+1)).any (iZ a)=iZ a c.nets[k]):=Lib.hid (by rw [List.take_succ_eq_append_getElem g,List.any_append,t.out];simp);have E:Hid (iZ a c.nets[k]=true→c.nets.any (iZ a)=true):=Lib.hid (fun e=>List.any_eq_true.2 ⟨_,List.getElem_mem g,e⟩);obtain ⟨x,H⟩:∃x,c.nets[k]=x:=⟨_,rfl⟩;rw [H] at f d q G E;obtain ⟨n,l⟩:=x;simp only at f d q;have d0:wr.cell? ⟨b,r+k * 2,none⟩=some (.int .i64 n):=(o.out.cell (by exact p)).trans f;have d1:wr.cell? ⟨b,r+k * 2+1,none⟩=some (.int .i64 l):=(o.out.cell (by exact p)).trans d;have a1:IntKind.i64.wrap (32 - l)=32 - l:=by rw [IntKind.wrap_i64];omega
   have a0:¬(32 - l < 0):=by omega
   have M:(0:Int)≤32 - l:=by omega
   clear H f d;go_wp2_with fail
   go_quiet (fail)
   have D:=Lib.hid ((o.out.alloc o.out.size (.cells #[.int .i64 n,.int .i64 l] 77)).trans (bA nq _ _))
   by_cases j:a / 2 ^ (32 - l).toNat=n / 2 ^ (32 - l).toNat
   ·have hb:(a / 2 ^ (32 - l).toNat == n / 2 ^ (32 - l).toNat)=true:=by rw [beq_iff_eq];exact j
    have T:=Lib.hid (E.out (by unfold iZ;simpa using j));clear j;go_wp2_with fail
    go_ret;exact ⟨by rw [T.out];rfl,D.out⟩
   ·have hb:(a / 2 ^ (32 - l).toNat == n / 2 ^ (32 - l).toNat)=false:=by rw [beq_eq_false_iff_ne];exact j
    have I:=G.out.trans (show iZ a (n,l)=false by unfold iZ;simpa using j);have u:=Lib.hid I;clear j I;go_wp2_with fail
    exact ⟨⟨k+1,by omega,by go_num,u,D⟩,by simp [intOf];omega⟩
  ·have A:k=c.nets.length:=by omega
   subst A;rw [List.take_length] at t;go_wp2_with fail
   go_ret;exact ⟨by rw [t.out];rfl,o.out⟩
end Go.Proofs.YtofpegbpgkkgkaaGreatDoor
