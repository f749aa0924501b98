import Derived.Lib.IndexMore
import Derived.Lib.IndexLaws
import Derived.Lib.IndexAny
import Derived.Lib.Split
import Derived.Lib.SplitLaws
import Derived.Lib.Case
import Derived.WalkKit
import Derived.WalkSpells
import Derived.WalkLawsBesides
import Derived.Lib.Strings
import Derived.Lib.IndexBytes
import Derived.Test.YtofpegbpgkkgkaaGreatDoorS01
import Derived.Laws.BitsAllLaws
import Derived.Deep.QuietTactic
import Derived.BigQuiet
import Derived.Deep.RegionWith
namespace Go.Proofs.YtofpegbpgkkgkaaGreatDoor
set_option maxHeartbeats 8000000
set_option maxRecDepth 1000000
open Go
def Fj (c:Int):Bool:=(decide (97≤c) && decide (c≤122)) || (decide (65≤c) && decide (c≤90))
def ix (c:Int):Bool:=decide (48≤c) && decide (c≤57)
def Gk (c:UInt8):Bool:=Fj c.toNat || ix c.toNat
def xU (l m:List UInt8):Bool:=l.all fun c=>Gk c || !decide (Lib.indexByte m c < 0)
def pX (l:List UInt8):Bool:=decide (1≤l.length) && decide (l.length≤20) && !Lib.hasPrefix l [45] && !Lib.hasSuffix l [45] && xU l [45]
def p8 (l:List UInt8):Bool:=decide (1≤l.length) && decide (l.length≤20) && !Lib.hasPrefix l [46] && !Lib.hasSuffix l [46] && !Lib.contains l [46,46] && xU l [45,95,43,46]
def cz (c:UInt8):List UInt8→List UInt8×List UInt8×Bool
 | []=>([],[],false)
 | b::r=>if b=c then ([],r,true) else (b::(cz c r).1,(cz c r).2.1,(cz c r).2.2)
def du (c:UInt8):List UInt8→List (List UInt8)
 | []=>[[]]
 | b::r=>if b=c then []::du c r else (b::(du c r).headD [])::(du c r).tail
def jj (l:List UInt8):Bool:=decide (l.length≤40) && (du 46 l).all pX
def ux (l:List UInt8):Bool:=decide (1≤l.length) && decide (l.length≤20) && !(l.getD 0 0 == 45) && !(l.getD (l.length - 1) 0 == 45) && l.all fun c=>Gk c || c == 45
theorem ot (l:List UInt8) (c:UInt8) (h:1≤l.length):Lib.hasPrefix l [c]=(l.getD 0 0 == c):=by
 cases l with
 | nil=>simp at h
 | cons b r=>
  rw [Bool.eq_iff_iff];simp [Lib.hasPrefix,List.isPrefixOf];exact eq_comm
theorem wG (l:List UInt8) (c:UInt8) (h:1≤l.length):Lib.hasSuffix l [c]=(l.getD (l.length - 1) 0 == c):=by
 rw [Lib.hasSuffix,List.isSuffixOf];have a:1≤l.reverse.length:=by simpa using h
 have:=ot l.reverse c a;rw [Lib.hasPrefix] at this;simp only [List.reverse_cons,List.reverse_nil,List.nil_append];rw [this]
 congr 1
 rw [List.getD_eq_getElem?_getD,List.getD_eq_getElem?_getD,List.getElem?_reverse (show 0 < l.length by omega)];simp
theorem wI (m:List UInt8) (c:UInt8):(!decide (Lib.indexByte m c < 0))=m.contains c:=by
 rw [Lib.contains_iff_indexByte];have:=Lib.indexByte_ge m c
 by_cases h:Lib.indexByte m c < 0
 ·have a:¬0≤Lib.indexByte m c:=by omega
  simp [h,a]
 ·have a:0≤Lib.indexByte m c:=by omega
  simp [h,a]
theorem Ek (l:List UInt8):pX l=ux l:=by
 unfold pX ux
 by_cases h:1≤l.length
 ·rw [ot l 45 h,wG l 45 h]
  congr 1
  unfold xU
  congr 1
  funext c
  rw [wI,Bool.eq_iff_iff];simp
 ·simp [h]
theorem lL (c:UInt8):∀l:List UInt8,(cz c l).2.2=true→l=(cz c l).1++c::(cz c l).2.1∧du c l=(cz c l).1::du c (cz c l).2.1∧Lib.indexByte l c=((cz c l).1.length:Int)
 | [],h=>by simp [cz] at h
 | b::r,h=>by
  by_cases a:b=c
  ·subst a;simp [cz,du,Lib.indexByte]
  ·have d:(b == c)=false:=by simpa using a
   have i:(cz c r).2.2=true:=by simpa [cz,a] using h
   obtain ⟨e,f,g⟩:=lL c r i;refine ⟨?_,?_,?_⟩
   ·simp only [cz,a,if_false,List.cons_append];rw [←e]
   ·simp only [cz,du,a,if_false];rw [f];rfl
   ·simp only [cz,a,if_false,Lib.indexByte,d,Bool.false_eq_true];rw [g];have:(((cz c r).1.length:Int) == -1)=false:=by rw [beq_eq_false_iff_ne];omega
    rw [this];simp
theorem lu (c:UInt8):∀l:List UInt8,(cz c l).2.2=false→cz c l=(l,[],false)∧du c l=[l]∧Lib.indexByte l c= -1
 | [],h=>by simp [cz,du,Lib.indexByte]
 | b::r,h=>by
  by_cases a:b=c
  ·subst a;simp [cz] at h
  ·have d:(b == c)=false:=by simpa using a
   have i:(cz c r).2.2=false:=by simpa [cz,a] using h
   obtain ⟨e,f,g⟩:=lu c r i;refine ⟨?_,?_,?_⟩
   ·simp only [cz,a,if_false];rw [e]
   ·simp only [du,a,if_false];rw [f];rfl
   ·simp only [Lib.indexByte,d,Bool.false_eq_true,if_false];rw [g];rfl
theorem yS (c:UInt8):∀(l:List UInt8) (i:Nat),l[i]? =some c→(∀j:Nat,j < i→l[j]? ≠some c)→cz c l=(l.take i,l.drop (i+1),true)
 | [],i,h,_=>by simp at h
 | b::r,0,h,_=>by
  have:b=c:=by simpa using h
  simp [cz,this]
 | b::r,i+1,h,hn=>by
  have a:b≠c:=by simpa using hn 0 (by omega)
  have d:=yS c r i (by simpa using h) (fun j e=>by simpa using hn (j+1) (by omega));simp only [cz,a,if_false];rw [d];simp
theorem sW (c:UInt8):∀(l:List UInt8),(∀j:Nat,l[j]? ≠some c)→cz c l=(l,[],false)
 | [],_=>rfl
 | b::r,hn=>by
  have a:b≠c:=by simpa using hn 0
  have d:=sW c r (fun j=>by simpa using hn (j+1));simp only [cz,a,if_false];rw [d]
theorem GB (c:UInt8) (l:List UInt8):cz c l=if 0≤Lib.indexByte l c then (l.take (Lib.indexByte l c).toNat,l.drop ((Lib.indexByte l c).toNat+1),true) else (l,[],false):=by
 have b:=Lib.indexByte_ge l c
 by_cases h:0≤Lib.indexByte l c
 ·rw [if_pos h];obtain ⟨n,a⟩:=Int.eq_ofNat_of_zero_le h;have:=Lib.indexByte_some a;rw [a];exact yS c l n this.1 this.2
 ·rw [if_neg h];exact sW c l (Lib.indexByte_none (by omega))
theorem qy (c:UInt8):∀(k:Nat) (l:List UInt8),l.count c=k→Lib.splitK [c] 0 k l=du c l
 | 0,l,h=>by
  have v:∀j:Nat,l[j]? ≠some c:=fun j d=>by
   have:=List.mem_of_getElem? d;rw [List.count_eq_zero] at h;exact h this
  have r:(cz c l).2.2=false:=by rw [sW c l v]
  rw [(lu c l r).2.1];rfl
 | k+1,l,h=>by
  cases m:(cz c l).2.2 with
  | false=>
   have o:=(lu c l m).2.2;exfalso;have:c∈l:=List.count_pos_iff.1 (by omega);obtain ⟨j,d,e⟩:=List.mem_iff_getElem.1 this;exact Lib.indexByte_none o j (by rw [List.getElem?_eq_getElem d,e])
  | true=>
   obtain ⟨f,n,i⟩:=lL c l m
   have g:(cz c l).1.count c=0:=by
    rw [List.count_eq_zero];intro u;obtain ⟨j,d,e⟩:=List.mem_iff_getElem.1 u;refine (Lib.indexByte_some i).2 j d ?_;rw [f,List.getElem?_append_left d,List.getElem?_eq_getElem d,e]
   have t:(cz c l).2.1.count c=k:=by
    have:=h;rw [f,List.count_append,g,List.count_cons_self] at this;omega
   have y:=qy c k _ t;have s:(((cz c l).1.length:Int) == -1)=false:=by rw [beq_eq_false_iff_ne];omega
   rw [Lib.splitK,Lib.index_one,i,s,n,←y]
   have p:∀a b:List UInt8,l=a++c::b→List.take ((a.length:Int).toNat+0) l=a∧List.drop ((a.length:Int).toNat+[c].length) l=b:=by
    rintro a b rfl;have x:a.length+1 - a.length=1:=by omega
    simp [List.drop_append,x]
   obtain ⟨w,q⟩:=p _ _ f;rw [w,q];rfl
theorem Iy (l:List UInt8):Lib.split l [46]=du 46 l:=by
 rw [Lib.split,Lib.count_one];exact qy 46 _ l rfl
def Az (l:List UInt8):Bool:= !l.isEmpty && decide (l.length≤40) && (du 46 l).all ux
theorem yU (l:List UInt8):jj l=Az l:=by
 unfold jj Az;have:pX=ux:=funext Ek;rw [this]
 cases l with
 | nil=>rfl
 | cons b r=>simp
theorem oY (c:UInt8):∀(l:List UInt8) (b:UInt8),b∈l→b=c∨∃p∈du c l,b∈p
 | [],b,h=>by cases h
 | x::r,b,h=>by
  by_cases f:x=c
  ·rcases List.mem_cons.1 h with e | h
   ·left;rw [e,f]
   ·rcases oY c r b h with e | ⟨p,a,d⟩
    ·exact Or.inl e
    ·right;refine ⟨p,?_,d⟩;simp [du,f,a]
  ·simp only [du,f,if_false]
   rcases List.mem_cons.1 h with e | h
   ·right;exact ⟨_,List.mem_cons_self,by rw [e];exact List.mem_cons_self⟩
   ·rcases oY c r b h with e | ⟨p,a,d⟩
    ·exact Or.inl e
    ·right
     cases g:du c r with
     | nil=>rw [g] at a;cases a
     | cons q qs=>
      rw [g] at a
      rcases List.mem_cons.1 a with e | a
      ·subst e;exact ⟨_,List.mem_cons_self,List.mem_cons_of_mem _ d⟩
      ·exact ⟨p,List.mem_cons_of_mem _ a,d⟩
theorem Kg (c:UInt8) (h:Gk c=true):c.toNat < 128:=by
 simp only [Gk,Fj,ix,Bool.or_eq_true,Bool.and_eq_true,decide_eq_true_eq] at h;omega
theorem qK (l:List UInt8) (h:jj l=true):∀(j:Nat) (b:UInt8),l[j]? =some b→b.toNat < 128:=by
 intro j b c;rw [yU] at h;simp only [Az,Bool.and_eq_true,List.all_eq_true] at h
 rcases oY 46 l b (List.mem_of_getElem? c) with e | ⟨p,d,a⟩
 ·rw [e];decide
 ·have:=h.2 p d;simp only [ux,Bool.and_eq_true,List.all_eq_true] at this;have:=this.2 b a;rw [Bool.or_eq_true] at this
  rcases this with h | h
  ·exact Kg b h
  ·have:b=45:=by simpa using h
   rw [this];decide
theorem GC (l:List UInt8) (h:jj l=true):l.length≤40:=by
 simp only [jj,Bool.and_eq_true,decide_eq_true_eq] at h;exact h.1
theorem sX (c:UInt8) (l x y:List UInt8) (f:Bool) (h:cz c l=(x,y,f)):x.length≤l.length∧y.length≤l.length∧(f=true→y.length < l.length):=by
 cases f with
 | true=>
  have:=(lL c l (by rw [h])).1;rw [h] at this;have e:l.length=x.length+(y.length+1):=by rw [this];simp
  exact ⟨by omega,by omega,fun _=>by omega⟩
 | false=>
  obtain ⟨a,b,_⟩:=lu c l (by rw [h]);rw [a] at h;obtain ⟨rfl,rfl⟩:l=x∧[]=y:=by simpa using h
  exact ⟨Nat.le_refl _,Nat.zero_le _,fun h=>by cases h⟩
theorem qj {p:UInt8→Bool} {l:List UInt8} {k:Nat} {c:UInt8} (b:∀j:Nat,j < k→p (l.getD j 0)=true) (a:l.getD k 0=c) (h:p c=true):∀j:Nat,j < k+1→p (l.getD j 0)=true:=by
 intro j d
 by_cases e:j < k
 ·exact b j e
 ·have:j=k:=by omega
  rw [this,a];exact h
theorem yx {p:UInt8→Bool} {l:List UInt8} (h:∀j:Nat,j < l.length→p (l.getD j 0)=true):l.all p=true:=by
 rw [List.all_eq_true];intro c b;obtain ⟨i,a,e⟩:=List.mem_iff_getElem.1 b;have:=h i a;rw [List.getD_eq_getElem?_getD,List.getElem?_eq_getElem a] at this;rw [←e];exact this
theorem qH {p:UInt8→Bool} {l:List UInt8} {k:Nat} (a:k < l.length) (h:p (l.getD k 0)=false):l.all p=false:=by
 cases e:l.all p with
 | false=>rfl
 | true=>
  rw [List.all_eq_true] at e;have:=e (l.getD k 0) (by rw [List.getD_eq_getElem?_getD,List.getElem?_eq_getElem a];exact List.getElem_mem a);rw [h] at this;cases this
theorem Ha {l:List UInt8} (h:¬(1≤l.length∧l.length≤20)):ux l=false:=by
 cases e:ux l with
 | false=>rfl
 | true=>
  simp only [ux,Bool.and_eq_true,decide_eq_true_eq] at e;exact absurd ⟨e.1.1.1.1,e.1.1.1.2⟩ h
open Go.RowKit
theorem cG {a b:Bool} (h:a=b):Ending.returned (.bool a)= .returned (.bool b):=by rw [h]
theorem iG (c:Int) (w:World):Calls Tryz.prog 255 #[.int .u8 c] w fun e a=>e= .returned (.bool (Fj c || ix c))∧a=w:=by
 go_enter Tryz.func255,Tryz.ntmps255;go_wp2
 all_goals
  go_ret;exact ⟨cG (by rw [Bool.eq_iff_iff];simp [Fj,ix];omega),rfl⟩
theorem mU (s:ByteArray) (k:Nat) (h:k < s.size):s.data.toList[k]? =some s[k]:=by
 rw [List.getElem?_eq_getElem (by simpa using h)];rfl
theorem yH {a b:UInt8} {c:Int} (d:(b.toNat:Int)=c) (h:((a.toNat:Int) == c)=false):a≠b:=by
 intro e;subst e;rw [d] at h;simp at h
theorem yG {a b:UInt8} {c:Int} (d:(b.toNat:Int)=c) (h:((a.toNat:Int) == c)=true):a=b:=by
 have h:(a.toNat:Int)=c:=by simpa using h
 rw [←d] at h;exact UInt8.toNat_inj.1 (by omega)
def lC (b:UInt8) (l:List UInt8) (w:World) (e:Ending) (w':World):Prop:=
 ∃(x y:ByteArray) (f:Bool),e= .returned (.tuple #[.string x,.string y,.bool f])∧cz b l=(x.data.toList,y.data.toList,f)∧∃n,w'=w.drewN n
theorem lC.mk {b:UInt8} {l:List UInt8} {w:World} {e:Ending} {a:World} (x y:ByteArray) (f:Bool) (d:e= .returned (.tuple #[.string x,.string y,.bool f])) (c:cz b l=(x.data.toList,y.data.toList,f)) (n:Nat) (g:a=w.drewN n):lC b l w e a:=
 ⟨x,y,f,d,c,n,g⟩
def D4 (l:List UInt8) (w:World) (e:Ending) (w':World):Prop:=e= .returned (.bool (Az l))∧∃n,w'=w.drewN n
theorem D4.mk {l:List UInt8} {w:World} {e:Ending} {a:World} (b:Bool) (d:e= .returned (.bool b)) (c:Az l=b) (n:Nat) (f:a=w.drewN n):D4 l w e a:=⟨by rw [d,c],n,f⟩
theorem aJ (s:ByteArray):s.data.toList.length=s.size:=by simp
theorem pN (s:ByteArray) (k:Nat) (h:k < s.size):s.data.toList.getD k 0=s[k]:=by
 rw [List.getD_eq_getElem?_getD,mU s k h];rfl
theorem jL (m:ByteArray) (c:UInt8) (w:World):
  Calls Tryz.prog 216 #[.string m,.int .u8 (c.toNat:Int)] w fun e a=>e= .returned (.int .i64 (Lib.indexByte m.data.toList c))∧a=w:=by
 have:=Tryz.strings_IndexByte m (c.toNat:Int) w
 rwa [Int.toNat_natCast,show c.toNat.toUInt8=c from UInt8.ofNat_toNat] at this
def p9 (m:List UInt8) (c:UInt8):Bool:=Gk c || !decide (Lib.indexByte m c < 0)
theorem pQ (s m:ByteArray) (w:World) (n:s.size≤maxLen):
  Calls Tryz.prog 215 #[.string s,.string m] w fun e a=>e= .returned (.bool (xU s.data.toList m.data.toList))∧a=w:=by
 unfold maxLen at n;go_enter Tryz.func215,Tryz.ntmps215;go_wp2
 go_loop [8] (fun i=>∃k:Nat,k≤s.size∧i= .int .i64 k∧Hid (∀j:Nat,j < k→p9 m.data.toList (s.data.toList.getD j 0)=true)) (fun i=>s.size - (intOf i).toNat)
 case atStart=>exact ⟨0,Nat.zero_le _,rfl,fun j l=>by omega⟩
 case round=>
  obtain ⟨k,o,rfl,d⟩:=hrel
  by_cases c:k < s.size
  ·have g:Hid (s.data.toList.getD k 0=s[k]):=pN s k c
   cases f:(Fj ↑s[k].toNat || ix ↑s[k].toNat) with
   | true=>
    have b:Hid (p9 m.data.toList s[k]=true):=by
     show _=_;simp only [p9,Gk,f,Bool.true_or]
    go_wp2_with (go_at_call 255;refine (iG _ _).mono ?_;rintro e a ⟨rfl,rfl⟩)
    exact ⟨⟨k+1,by omega,by go_num,qj d.out g.out b.out⟩,by simp [intOf];omega⟩
   | false=>
    cases h:decide (Lib.indexByte m.data.toList s[k] < 0) with
    | true=>
     have b:Hid (p9 m.data.toList s[k]=false):=by
      show _=_;simp only [p9,Gk,f,h];rfl
     go_wp2_with (first | (go_at_call 255;refine (iG _ _).mono ?_;rintro e a ⟨rfl,rfl⟩) | (go_at_call 216;refine (jL _ _ _).mono ?_;rintro e a ⟨rfl,rfl⟩))
     go_ret;exact ⟨cG (qH (p:=p9 m.data.toList) (by rw [aJ];exact c) (by rw [g.out,b.out])).symm,rfl⟩
    | false=>
     have b:Hid (p9 m.data.toList s[k]=true):=by
      show _=_;simp only [p9,Gk,f,h];rfl
     go_wp2_with (first | (go_at_call 255;refine (iG _ _).mono ?_;rintro e a ⟨rfl,rfl⟩) | (go_at_call 216;refine (jL _ _ _).mono ?_;rintro e a ⟨rfl,rfl⟩))
     exact ⟨⟨k+1,by omega,by go_num,qj d.out g.out b.out⟩,by simp [intOf];omega⟩
  ·go_wp2
   go_ret;exact ⟨cG (yx (p:=p9 m.data.toList) (fun j l=>d.out j (by rw [aJ] at l;omega))).symm,rfl⟩
theorem rG (s:ByteArray) (w:World) (k:s.size≤maxLen):
  Calls Tryz.prog 158 #[.string s] w fun e a=>e= .returned (.bool (pX s.data.toList))∧a=w:=by
 have g:=k;unfold maxLen at k;have d:Hid (∀b,pX s.data.toList=b→Ending.returned (.bool b)= .returned (.bool (pX s.data.toList))):=fun b h=>by rw [h]
 by_cases c:1≤s.size∧s.size≤20
 ·have m:decide ((s.size:Int) < 1)=false:=by simp;omega
  have n:decide (20 < (s.size:Int))=false:=by simp;omega
  have f:Hid (pX s.data.toList=(!Lib.hasPrefix s.data.toList [45] && !Lib.hasSuffix s.data.toList [45] && xU s.data.toList [45])):=by
   show _=_;simp only [pX,aJ,decide_eq_true c.1,decide_eq_true c.2,Bool.true_and]
  clear c
  cases i:Lib.hasPrefix s.data.toList [45] with
  | true=>
   go_enter Tryz.func158,Tryz.ntmps158;go_wp2_with (go_at_call 178;refine (Tryz.strings_HasPrefix _ _ _).mono ?_;rintro e a ⟨rfl,rfl⟩)
   go_ret;exact ⟨d.out _ (by rw [f.out,i];rfl),rfl⟩
  | false=>
   cases j:Lib.hasSuffix s.data.toList [45] with
   | true=>
    go_enter Tryz.func158,Tryz.ntmps158;go_wp2_with (first | (go_at_call 178;refine (Tryz.strings_HasPrefix _ _ _).mono ?_;rintro e a ⟨rfl,rfl⟩) | (go_at_call 214;refine (Tryz.strings_HasSuffix _ _ _ g).mono ?_;rintro e a ⟨rfl,rfl⟩))
    go_ret;exact ⟨d.out _ (by rw [f.out,i,j];rfl),rfl⟩
   | false=>
    go_enter Tryz.func158,Tryz.ntmps158;go_wp2_with (first | (go_at_call 178;refine (Tryz.strings_HasPrefix _ _ _).mono ?_;rintro e a ⟨rfl,rfl⟩) | (go_at_call 214;refine (Tryz.strings_HasSuffix _ _ _ g).mono ?_;rintro e a ⟨rfl,rfl⟩) | (go_at_call 215;refine (pQ _ _ _ g).mono ?_;rintro e a ⟨rfl,rfl⟩))
    go_ret;exact ⟨d.out _ (by rw [f.out,i,j];rfl),rfl⟩
 ·have l:Hid (pX s.data.toList=false):=by
   rw [Ek];exact Ha (by rw [aJ];exact c)
  have o:(decide ((s.size:Int) < 1) || decide (20 < (s.size:Int)))=true:=by simp;omega
  clear c;go_enter Tryz.func158,Tryz.ntmps158;go_wp2_with fail
  all_goals (go_ret;exact ⟨d.out _ l.out,rfl⟩)
theorem mZ (s:ByteArray) (m:Int) (w:World) (o:s.size≤maxLen) (n:w.cell? ⟨0,0,none⟩=some (.int .i64 m)):
  Calls Tryz.prog 176 #[.string s] w fun e a=>e= .returned (.bool (p8 s.data.toList))∧a=w:=by
 have i:=o;unfold maxLen at o;have c:Hid (∀b,p8 s.data.toList=b→Ending.returned (.bool b)= .returned (.bool (p8 s.data.toList))):=fun b h=>by rw [h]
 by_cases f:1≤s.size∧s.size≤20
 ·have q:decide ((s.size:Int) < 1)=false:=by simp;omega
  have r:decide (20 < (s.size:Int))=false:=by simp;omega
  have d:s.size < 4294967281:=by omega
  have g:Hid (p8 s.data.toList=(!Lib.hasPrefix s.data.toList [46] && !Lib.hasSuffix s.data.toList [46] && !Lib.contains s.data.toList [46,46] && xU s.data.toList [45,95,43,46])):=by
   show _=_;simp only [p8,aJ,decide_eq_true f.1,decide_eq_true f.2,Bool.true_and]
  clear f
  cases j:Lib.hasPrefix s.data.toList [46] with
  | true=>
   go_enter Tryz.func176,Tryz.ntmps176;go_wp2_with (go_at_call 178;refine (Tryz.strings_HasPrefix _ _ _).mono ?_;rintro e a ⟨rfl,rfl⟩)
   go_ret;exact ⟨c.out _ (by rw [g.out,j];rfl),rfl⟩
  | false=>
   cases k:Lib.hasSuffix s.data.toList [46] with
   | true=>
    go_enter Tryz.func176,Tryz.ntmps176;go_wp2_with (first | (go_at_call 178;refine (Tryz.strings_HasPrefix _ _ _).mono ?_;rintro e a ⟨rfl,rfl⟩) | (go_at_call 214;refine (Tryz.strings_HasSuffix _ _ _ i).mono ?_;rintro e a ⟨rfl,rfl⟩))
    go_ret;exact ⟨c.out _ (by rw [g.out,j,k];rfl),rfl⟩
   | false=>
    cases l:Lib.contains s.data.toList [46,46] with
    | true=>
     go_enter Tryz.func176,Tryz.ntmps176;go_wp2_with (first | (go_at_call 178;refine (Tryz.strings_HasPrefix _ _ _).mono ?_;rintro e a ⟨rfl,rfl⟩) | (go_at_call 214;refine (Tryz.strings_HasSuffix _ _ _ i).mono ?_;rintro e a ⟨rfl,rfl⟩) | (go_at_call 224;refine (Tryz.strings_Contains _ _ m _ d n).mono ?_;rintro e a ⟨rfl,rfl⟩))
     go_ret;exact ⟨c.out _ (by rw [g.out,j,k,l];rfl),rfl⟩
    | false=>
     go_enter Tryz.func176,Tryz.ntmps176;go_wp2_with (first | (go_at_call 178;refine (Tryz.strings_HasPrefix _ _ _).mono ?_;rintro e a ⟨rfl,rfl⟩) | (go_at_call 214;refine (Tryz.strings_HasSuffix _ _ _ i).mono ?_;rintro e a ⟨rfl,rfl⟩) | (go_at_call 224;refine (Tryz.strings_Contains _ _ m _ d n).mono ?_;rintro e a ⟨rfl,rfl⟩) | (go_at_call 215;refine (pQ _ _ _ i).mono ?_;rintro e a ⟨rfl,rfl⟩))
     go_ret;exact ⟨c.out _ (by rw [g.out,j,k,l];rfl),rfl⟩
 ·have p:Hid (p8 s.data.toList=false):=by
   show _=_
   cases e:p8 s.data.toList with
   | false=>rfl
   | true=>
    simp only [p8,Bool.and_eq_true,decide_eq_true_eq,aJ] at e;exact absurd ⟨e.1.1.1.1.1,e.1.1.1.1.2⟩ f
  have t:(decide ((s.size:Int) < 1) || decide (20 < (s.size:Int)))=true:=by simp;omega
  clear f;go_enter Tryz.func176,Tryz.ntmps176;go_wp2_with fail
  all_goals (go_ret;exact ⟨c.out _ p.out,rfl⟩)
def Ew (l:List UInt8) (w:World) (e:Ending) (w':World):Prop:=
 ∃ps:List ByteArray,e= .returned (.slice (some ⟨w.heap.size,0,none⟩) ps.length ps.length)∧ps.map (·.data.toList)=du 46 l∧ps.length≤41∧(∀p∈ps,p.size≤40)∧Below w.heap.size w w'∧
  ∀k (hk:k < ps.length),w'.cell? ⟨w.heap.size,k,none⟩=some (.string ps[k])
theorem uY (c:UInt8):∀l:List UInt8,(du c l).length≤l.length+1∧∀p∈du c l,p.length≤l.length
 | []=>by simp [du]
 | b::r=>by
  have d:=uY c r
  by_cases f:b=c
  ·simp only [du,f,if_true];refine ⟨by simp;omega,?_⟩
   intro p a
   rcases List.mem_cons.1 a with e | a
   ·subst e;simp
   ·have:=d.2 p a;simp;omega
  ·simp only [du,f,if_false]
   cases g:du c r with
   | nil=>simp
   | cons q qs=>
    rw [g] at d;refine ⟨by simp at d ⊢;omega,?_⟩
    intro p a
    rcases List.mem_cons.1 a with e | a
    ·subst e;have:=d.2 q List.mem_cons_self;simp;omega
    ·have:=d.2 p (List.mem_cons_of_mem _ a);simp;omega
theorem FV (s:ByteArray) (m:Int) (w:World) (j:s.size≤40) (h:w.cell? ⟨0,0,none⟩=some (.int .i64 m)):
  Calls Tryz.prog 157 #[.string s,.string ⟨#[46]⟩] w (Ew s.data.toList w):=by
 refine (Tryz.strings_Split s ⟨#[46]⟩ m w (by omega) h (by decide)).mono ?_;rintro e l ⟨rfl,rfl⟩;have a:=Lib.splitB_all ⟨#[46]⟩ (by decide) 0 _ s rfl;have f:=Lib.splitB_data ⟨#[46]⟩ 0 (Lib.countB s ⟨#[46]⟩) s;have b:(Lib.splitB ⟨#[46]⟩ 0 (Lib.countB s ⟨#[46]⟩) s).map (·.data.toList)=du 46 s.data.toList:=f.trans (Iy s.data.toList);have c:=uY 46 s.data.toList
 generalize Lib.splitB ⟨#[46]⟩ 0 (Lib.countB s ⟨#[46]⟩) s=ps at *
 refine ⟨ps,by rw [a],b,?_,?_,(Below.refl _ _).alloc (Nat.le_refl _) _,?_⟩
 ·have:=congrArg List.length b;rw [List.length_map] at this;have d:=c.1;rw [aJ] at d;omega
 ·intro p i;have:=c.2 p.data.toList (by rw [←b];exact List.mem_map_of_mem i);rw [aJ,aJ] at this;omega
 ·intro k g;have:(w.alloc (.cells (ps.map Value.string).toArray 9)).cell? ⟨w.heap.size,k,none⟩=(ps.map Value.string).toArray[k]? :=World.cell?_alloc_mark _ _ _ _ _;rw [this];simp [List.getElem?_eq_getElem g]
def lp (l:List UInt8) (w:World) (e:Ending) (w':World):Prop:=e= .returned (.bool (jj l))∧Below w.heap.size w w'
theorem lp.mk {l:List UInt8} {w:World} {e:Ending} {a:World} (b:Bool) (d:e= .returned (.bool b)) (c:jj l=b) (f:Below w.heap.size w a):lp l w e a:=⟨by rw [d,c],f⟩
theorem iy (s:ByteArray) (m:Int) (w:World) (H:s.size≤maxLen) (v:w.cell? ⟨0,0,none⟩=some (.int .i64 m)):
  Calls Tryz.prog 104 #[.string s] w (lp s.data.toList w):=by
 unfold maxLen at H
 by_cases A:40 < s.size
 ·go_enter Tryz.func104,Tryz.ntmps104;go_wp2_with fail
  go_ret;exact lp.mk false rfl (by simp [jj];intro h;omega) (Below.refl _ _)
 ·have t:decide (40 < (s.size:Int))=false:=by simp;omega
  have b:s.size≤40:=by omega
  go_enter Tryz.func104,Tryz.ntmps104;go_wp2_with fail
  refine (FV s m _ b v).mono ?_;rintro e J ⟨a,rfl,x,G,g,r,u⟩
  have o:Hid (jj s.data.toList=(a.map (·.data.toList)).all pX):=by
   show _=_;rw [x,jj,aJ,decide_eq_true b,Bool.true_and]
  have z:=Lib.hid g;have y:=Lib.hid u;clear x g u v;go_wp2_with fail
  go_loop [11] (fun i=>∃k:Nat,k≤a.length∧i= .int .i64 k∧Hid (∀j (d:j < a.length),j < k→pX a[j].data.toList=true)) (fun i=>a.length - (intOf i).toNat)
  case atStart=>exact ⟨0,Nat.zero_le _,rfl,fun j d D=>by omega⟩
  case round=>
   obtain ⟨k,D,rfl,n⟩:=hrel
   by_cases c:k < a.length
   ·have B:J.cell? ⟨w.heap.size,k,none⟩=some (.string a[k]):=y.out k c;have f:a[k].size≤maxLen:=by have:=z.out a[k] (List.getElem_mem c);unfold maxLen;omega
    cases q:pX a[k].data.toList with
    | true=>
     go_wp2_with (go_at_call 158;refine (rG _ _ f).mono ?_;rintro e I ⟨rfl,rfl⟩)
     exact ⟨⟨k+1,by omega,by go_num,fun j d C=>by
      by_cases e:j < k
      ·exact n.out j d e
      ·have:j=k:=by omega
       subst this;exact q⟩,by simp [intOf];omega⟩
    | false=>
     go_wp2_with (go_at_call 158;refine (rG _ _ f).mono ?_;rintro e I ⟨rfl,rfl⟩)
     go_ret;refine lp.mk false rfl ?_ r;rw [o.out]
     cases e:(a.map (·.data.toList)).all pX with
     | false=>rfl
     | true=>
      rw [List.all_eq_true] at e;have:=e a[k].data.toList (List.mem_map_of_mem (List.getElem_mem c));rw [q] at this;cases this
   ·go_wp2
    go_ret;refine lp.mk true rfl ?_ r;rw [o.out,List.all_eq_true];intro l E;obtain ⟨p,F,rfl⟩:=List.mem_map.1 E;obtain ⟨j,d,rfl⟩:=List.mem_iff_getElem.1 F;exact n.out j d (by omega)
theorem zy (s:ByteArray) (c:UInt8) (w:World) (l:s.size≤maxLen):
  Calls Tryz.prog 203 #[.string s,.string ⟨#[c]⟩] w (lC c s.data.toList w):=by
 unfold maxLen at l;have a:=GB c s.data.toList
 by_cases h:0≤Lib.indexByte s.data.toList c
 ·rw [if_pos h] at a;obtain ⟨i,b⟩:=Int.eq_ofNat_of_zero_le h;have j:=(Lib.indexByte_some b).1
  have k:i < s.size:=by
   have:=(List.getElem?_eq_some_iff.1 j).1;rw [aJ] at this;exact this
  have f:=Lib.hid b;rw [b,Int.toNat_natCast] at a;have d:=Lib.hid a;clear a b h j;have n:(0:Int)≤↑i:=by omega
  have o:(↑i:Int)≤↑s.size:=by omega
  have p:(0:Int)≤↑i+1:=by omega
  have q:(↑i+1:Int)≤↑s.size:=by omega
  go_enter Tryz.func203,Tryz.ntmps203;go_wp2_with (go_at_call 239;refine (Tryz.stringslite_Index_one _ _ _).mono ?_;rintro e m ⟨rfl,rfl⟩;rw [f.out])
  go_region
  go_wp2
  go_ret3
  refine lC.mk _ _ _ rfl ?_ 1 rfl;rw [d.out,Lib.extract_data,Lib.extract_to_end];rfl
 ·have g:=Lib.indexByte_ge s.data.toList c;have b:Lib.indexByte s.data.toList c= -1:=by omega
  rw [if_neg h] at a;have f:=Lib.hid b;have d:=Lib.hid a;clear a b h g;go_enter Tryz.func203,Tryz.ntmps203;go_wp2_with (go_at_call 239;refine (Tryz.stringslite_Index_one _ _ _).mono ?_;rintro e m ⟨rfl,rfl⟩;rw [f.out])
  go_ret3
  exact lC.mk _ _ _ rfl d.out 0 rfl
theorem jB (s:ByteArray) (c:UInt8) (w:World) (d:s.size≤maxLen):
  Calls Tryz.prog 150 #[.string s,.string ⟨#[c]⟩] w (lC c s.data.toList w):=by
 go_enter Tryz.func150,Tryz.ntmps150;go_wp2_with fail
 refine (zy s c _ d).mono ?_;rintro e g ⟨x,y,f,rfl,a,n,rfl⟩;have b:=Lib.hid a;clear a;go_wp2_with fail
 go_ret3
 exact lC.mk _ _ _ rfl b.out n rfl
theorem iw (s:ByteArray) (w:World) (a:s.size≤140737488355328):
  Calls Tryz.prog 69 #[.string s] w fun e b=>e= .returned (.string s)∧Below w.heap.size w b:=by
 go_enter Tryz.func69,Tryz.ntmps69;go_wp2_with fail
 refine (Tryz.stringslite_Clone s _ (by omega)).mono ?_;rintro e b ⟨rfl,c⟩;go_wp2_with fail
 go_ret;exact ⟨rfl,c⟩
theorem qZ (s:ByteArray) (w:World) (f:s.size≤40) (a:∀(j:Nat) (b:UInt8),s.data.toList[j]? =some b→b.toNat < 128):
  Calls Tryz.prog 177 #[.string s] w fun e h=>e= .returned (.string ⟨(Lib.toLowerA s.data.toList).toArray⟩)∧Below w.heap.size w h:=by
 have g:=Lib.hid a;clear a;go_enter Tryz.func177,Tryz.ntmps177;go_wp2_with fail
 refine (Tryz.strings_ToLower_ascii s _ (by omega) g.out).mono ?_;rintro e i ⟨rfl,d⟩;go_wp2_with fail
 refine (iw _ _ ?_).mono ?_
 ·show (Lib.toLowerA s.data.toList).toArray.size≤_;simp [Lib.toLowerA];omega
 rintro e k ⟨rfl,c⟩;go_wp2_with fail
 go_ret;exact ⟨rfl,d.trans (c.mono d.size)⟩
def fq (l:List UInt8):List UInt8×List UInt8×Bool:=
 if p8 (cz 64 l).1 && jj (cz 64 l).2.1 then ((cz 64 l).1,Lib.toLowerA (cz 64 l).2.1,true) else ([],[],false)
def jR (l:List UInt8) (w:World) (e:Ending) (w':World):Prop:=
 ∃(x y:ByteArray) (f:Bool),e= .returned (.tuple #[.string x,.string y,.bool f])∧fq l=(x.data.toList,y.data.toList,f)∧Below w.heap.size w w'
theorem jR.mk {l:List UInt8} {w:World} {e:Ending} {a:World} (x y:ByteArray) (f:Bool) (c:e= .returned (.tuple #[.string x,.string y,.bool f])) (b:fq l=(x.data.toList,y.data.toList,f)) (d:Below w.heap.size w a):jR l w e a:=
 ⟨x,y,f,c,b,d⟩
theorem bA (n:Nat) (w:World) (B:Nat):Below B w (w.drewN n):=by
 induction n with
 | zero=>exact Below.refl _ _
 | succ n ih=>exact ih.trans ((Below.refl _ _).drew)
theorem vz (s:ByteArray) (m:Int) (w:World) (B:s.size≤140737488355328) (z:w.cell? ⟨0,0,none⟩=some (.int .i64 m)):
  Calls Tryz.prog 125 #[.string s] w (jR s.data.toList w):=by
 have v:s.size≤maxLen:=by unfold maxLen;omega
 go_enter Tryz.func125,Tryz.ntmps125;go_wp2_with fail
 refine (jB s 64 _ v).mono ?_;rintro e q ⟨x,y,f,rfl,p,n,rfl⟩;have r:=sX 64 _ _ _ _ p;rw [aJ,aJ,aJ] at r;have A:x.size≤140737488355328:=by omega
 have C:y.size≤140737488355328:=by omega
 have b:x.size≤maxLen:=by unfold maxLen;omega
 have i:y.size≤maxLen:=by unfold maxLen;omega
 have j:Hid (fq s.data.toList=if p8 x.data.toList && jj y.data.toList then (x.data.toList,Lib.toLowerA y.data.toList,true) else ([],[],false)):=by
  show _=_;rw [fq,p]
 clear r p;have a:(w.drewN n).cell? ⟨0,0,none⟩=some (.int .i64 m):=by simpa using z
 cases k:p8 x.data.toList with
 | false=>
  go_wp2_with (go_at_call 176;refine (mZ _ m _ b a).mono ?_;rintro e q ⟨rfl,rfl⟩)
  go_ret3
  exact jR.mk _ _ _ rfl (by rw [j.out,k];rfl) (bA _ _ _)
 | true=>
  cases c:jj y.data.toList with
  | false=>
   go_wp2_with (first | (go_at_call 176;refine (mZ _ m _ b a).mono ?_;rintro e q ⟨rfl,rfl⟩) | fail)
   refine (iy y m _ i a).mono ?_;rintro e t ⟨rfl,l⟩;rw [c];go_wp2_with fail
   go_ret3
   exact jR.mk _ _ _ rfl (by rw [j.out,k,c];rfl) ((bA _ _ _).trans (by simpa using l))
  | true=>
   have h:y.size≤40:=by have:=GC _ c;rwa [aJ] at this
   have u:=Lib.hid (qK _ c);go_wp2_with (first | (go_at_call 176;refine (mZ _ m _ b a).mono ?_;rintro e q ⟨rfl,rfl⟩) | fail)
   refine (iy y m _ i a).mono ?_;rintro e t ⟨rfl,l⟩;rw [c];go_wp2_with fail
   refine (iw x _ A).mono ?_;rintro e D ⟨rfl,g⟩;go_wp2_with fail
   refine (qZ y _ h u.out).mono ?_;rintro e E ⟨rfl,o⟩;go_wp2_with fail
   go_ret3
   have d:Below w.heap.size w t:=(bA _ _ _).trans (by simpa using l);exact jR.mk _ _ _ rfl (by rw [j.out,k,c];rfl) (d.trans ((g.trans (o.mono g.size)).mono d.size))
def bg (w:World) (v:Value) (n sz:Nat) (cs:List Value):Prop:=
 cs.length=n * sz∧((n=0∧∃a cap,v= .slice a 0 cap)∨∃b off cap,v= .slice (some ⟨b,off,none⟩) n cap∧n≤cap∧∀j:Nat,j < n * sz→w.cell? ⟨b,off+j,none⟩=cs[j]?)
theorem eI {w:World} {b o:Nat} {v:Value} (h:w.cell? ⟨b,o,none⟩=some v):b < w.heap.size:=by
 rcases Nat.lt_or_ge b w.heap.size with a | a
 ·exact a
 ·simp [World.cell?,Array.getElem?_eq_none a] at h
theorem bg.below {w k:World} {v:Value} {n i:Nat} {c:List Value} (h:bg w v n i c) (l:Below w.heap.size w k):bg k v n i c:=by
 obtain ⟨g,h | ⟨b,a,cap,q,e,m⟩⟩:=h
 ·exact ⟨g,.inl h⟩
 ·refine ⟨g,.inr ⟨b,a,cap,q,e,fun j o=>?_⟩⟩;have d:=m j o;have f:j < c.length:=by omega
  rw [List.getElem?_eq_getElem f] at d ⊢;rw [←d];exact l.cell (p:=⟨b,a+j,none⟩) (eI d)
theorem bg.shape {w:World} {v:Value} {n d:Nat} {e:List Value} (h:bg w v n d e):∃a cap,v= .slice a n cap∧∀(k i:Nat),k < n→i < d→∃b c,a=some ⟨b,c,none⟩∧b < w.heap.size∧w.cell? ⟨b,c+(k * d+i),none⟩=e[k * d+i]? :=by
 obtain ⟨o,⟨rfl,a,cap,rfl⟩ | ⟨b,c,cap,rfl,_,g⟩⟩:=h
 ·exact ⟨a,cap,rfl,fun k i l=>by omega⟩
 ·refine ⟨_,cap,rfl,fun k i l m=>?_⟩
  have j:k * d+i < n * d:=by
   have:(k+1) * d≤n * d:=Nat.mul_le_mul_right _ l;rw [Nat.add_mul] at this;omega
  refine ⟨b,c,rfl,?_,g _ j⟩;have f:=g _ j;rw [List.getElem?_eq_getElem (by omega)] at f;exact eI f
theorem bg.cap {w:World} {a:Option Addr} {n m cap i:Nat} {cs:List Value} (h:bg w (.slice a n cap) m i cs):m≤cap:=by
 obtain ⟨_,⟨rfl,_⟩ | ⟨b,g,c,f,d,_⟩⟩:=h
 ·exact Nat.zero_le _
 ·injection f with _ _ e;omega
theorem bg.one {w:World} {v:Value} {n:Nat} {e:List Value} (h:bg w v n 1 e):∃a c,v= .slice a n c∧∀k:Nat,k < n→∃b d,a=some ⟨b,d,none⟩∧b < w.heap.size∧w.cell? ⟨b,d+k,none⟩=e[k]? :=by
 obtain ⟨a,c,i,f⟩:=h.shape;refine ⟨a,c,i,fun k g=>?_⟩;have:=f k 0 g (by decide);simpa using this
def cF (n a b:Int):Bool:=decide (a≤n) && decide (n≤b)
theorem me {a b:Bool} (h:b=a):Ending.returned (.bool a)= .returned (.bool b):=by rw [h]
theorem eO (n a b:Int) (w:World):Calls Tryz.prog 108 #[.int .i64 n,.int .i64 a,.int .i64 b] w fun e g=>e= .returned (.bool (cF n a b))∧w=g:=by
 by_cases d:a≤n
 ·by_cases f:n≤b
  ·go_enter Tryz.func108,Tryz.ntmps108;go_wp2
   go_ret;exact ⟨me (by simp [cF,d,f]),rfl⟩
  ·have c:decide (n≤b)=false:=by simpa using f
   go_enter Tryz.func108,Tryz.ntmps108;go_wp2
   all_goals (go_ret;exact ⟨me (by rw [cF,c,Bool.and_false]),rfl⟩)
 ·have c:decide (a≤n)=false:=by simpa using d
  go_enter Tryz.func108,Tryz.ntmps108;go_wp2
  all_goals (go_ret;exact ⟨me (by rw [cF,c];rfl),rfl⟩)
def mF (l:List UInt8):Bool:=cF l.length 1 20 && decide (Lib.indexByte l 0 < 0)
theorem uq (s:ByteArray) (w:World) (g:s.size≤maxLen):Calls Tryz.prog 160 #[.string s] w fun e a=>e= .returned (.bool (mF s.data.toList))∧w=a:=by
 have d:=g;unfold maxLen at d
 have b:Hid (mF s.data.toList=(cF s.size 1 20 && decide (Lib.indexByte s.data.toList 0 < 0))):=by
  show _=_;rw [mF,aJ]
 cases c:cF (s.size:Int) 1 20 with
 | false=>
  go_enter Tryz.func160,Tryz.ntmps160;go_wp2_with (go_at_call 108;refine (eO _ _ _ _).mono ?_;rintro e a ⟨rfl,rfl⟩)
  go_ret;exact ⟨me (by rw [b.out,c];rfl),rfl⟩
 | true=>
  cases f:decide (Lib.indexByte s.data.toList 0 < 0) with
  | false=>
   go_enter Tryz.func160,Tryz.ntmps160;go_wp2_with (first | (go_at_call 108;refine (eO _ _ _ _).mono ?_;rintro e a ⟨rfl,rfl⟩) | (go_at_call 216;refine (jL s 0 _).mono ?_;rintro e a ⟨rfl,rfl⟩))
   go_ret;exact ⟨me (by rw [b.out,c,f];rfl),rfl⟩
  | true=>
   go_enter Tryz.func160,Tryz.ntmps160;go_wp2_with (first | (go_at_call 108;refine (eO _ _ _ _).mono ?_;rintro e a ⟨rfl,rfl⟩) | (go_at_call 216;refine (jL s 0 _).mono ?_;rintro e a ⟨rfl,rfl⟩))
   go_ret;exact ⟨me (by rw [b.out,c,f];rfl),rfl⟩
def kI (l:List Int):Bool:=cF l.length 1 5 && l.all fun x=>cF x 1 1000000000
def ib (l:List Int):List Value:=l.map (Value.int .i64)
theorem gF (v:Value) (l:List Int) (w:World) (h:bg w v l.length 1 (ib l)) (B:l.length≤140737488351232):
  Calls Tryz.prog 109 #[v] w fun e g=>e= .returned (.bool (kI l))∧w=g:=by
 obtain ⟨a,y,rfl,s⟩:=h.one;have p:=Lib.hid s;clear s h
 cases m:cF (l.length:Int) 1 5 with
 | false=>
  go_enter Tryz.func109,Tryz.ntmps109;go_wp2_with (go_at_call 108;refine (eO _ _ _ _).mono ?_;rintro e g ⟨rfl,rfl⟩)
  go_ret;exact ⟨me (by rw [kI,m];rfl),rfl⟩
 | true=>
  go_enter Tryz.func109,Tryz.ntmps109;go_wp2_with (go_at_call 108;refine (eO _ _ _ _).mono ?_;rintro e g ⟨rfl,rfl⟩)
  go_loop [11] (fun i=>∃k:Nat,k≤l.length∧i= .int .i64 k∧Hid (∀j:Nat,j < k→cF (l.getD j 0) 1 1000000000=true)) (fun i=>l.length - (intOf i).toNat)
  case atStart=>exact ⟨0,Nat.zero_le _,rfl,fun j n=>by omega⟩
  case round=>
   obtain ⟨k,A,rfl,q⟩:=hrel
   by_cases c:k < l.length
   ·obtain ⟨b,o,rfl,z,d⟩:=p.out k c;obtain ⟨x,f⟩:∃x,l.getD k 0=x:=⟨_,rfl⟩
    have t:w.cell? ⟨b,o+k,none⟩=some (.int .i64 x):=by
     rw [d,ib,List.getElem?_map,List.getElem?_eq_getElem c,←f,List.getD_eq_getElem?_getD,List.getElem?_eq_getElem c];rfl
    have r:=Lib.hid f;clear d f p
    cases u:cF x 1 1000000000 with
    | true=>
     go_wp2_with (go_at_call 108;refine (eO _ _ _ _).mono ?_;rintro e g ⟨rfl,rfl⟩)
     refine ⟨⟨k+1,by omega,by go_num,fun j n=>?_⟩,by simp [intOf];omega⟩
     by_cases e:j < k
     ·exact q.out j e
     ·rw [show j=k by omega,r.out,u]
    | false=>
     go_wp2_with (go_at_call 108;refine (eO _ _ _ _).mono ?_;rintro e g ⟨rfl,rfl⟩)
     go_ret;refine ⟨me ?_,rfl⟩;rw [kI,m,Bool.true_and]
     cases e:l.all (fun x=>cF x 1 1000000000) with
     | false=>rfl
     | true=>
      rw [List.all_eq_true] at e;have:=e x (by rw [←r.out,List.getD_eq_getElem?_getD,List.getElem?_eq_getElem c];exact List.getElem_mem c);rw [u] at this;cases this
   ·go_wp2
    go_ret;refine ⟨me ?_,rfl⟩;rw [kI,m,Bool.true_and,List.all_eq_true];intro x f;obtain ⟨j,n,rfl⟩:=List.mem_iff_getElem.1 f;have:=q.out j (by omega)
    rwa [List.getD_eq_getElem?_getD,List.getElem?_eq_getElem n] at this
def dK (l:List ByteArray):List Value:=l.map Value.string
def oq (l:List ByteArray):Bool:=decide (l.length≤5) && l.all fun s=>jj s.data.toList
def eQ (b:Bool) (w:World) (e:Ending) (w':World):Prop:=e= .returned (.bool b)∧Below w.heap.size w w'
theorem eQ.mk {b:Bool} {w:World} {e:Ending} {a:World} (c:Bool) (f:e= .returned (.bool c)) (d:b=c) (g:Below w.heap.size w a):eQ b w e a:=⟨by rw [f,d],g⟩
theorem xx {α:Type} {p:α→Bool} {l:List α} {k:Nat} (a:k < l.length) (h:p l[k]=false):l.all p=false:=by
 cases e:l.all p with
 | false=>rfl
 | true=>
  rw [List.all_eq_true] at e;have:=e l[k] (List.getElem_mem a);rw [h] at this;cases this
theorem xy {α:Type} {p:α→Bool} {l:List α} (h:∀(j:Nat) (a:j < l.length),p l[j]=true):l.all p=true:=by
 rw [List.all_eq_true];intro x b;obtain ⟨j,a,rfl⟩:=List.mem_iff_getElem.1 b;exact h j a
theorem D8 {α:Type} {p:α→Bool} {l:List α} {k:Nat} (d:k < l.length) (c:∀(j:Nat) (a:j < l.length),j < k→p l[j]=true) (h:p l[k]=true):∀(j:Nat) (a:j < l.length),j < k+1→p l[j]=true:=by
 intro j a b
 by_cases e:j < k
 ·exact c j a e
 ·have:j=k:=by omega
  subst this;exact h
theorem qL (v:Value) (l:List ByteArray) (m:Int) (w:World) (h:bg w v l.length 1 (dK l)) (O:l.length≤140737488351232) (E:∀s∈l,s.size≤maxLen) (D:w.cell? ⟨0,0,none⟩=some (.int .i64 m)):
  Calls Tryz.prog 105 #[v] w (eQ (oq l) w):=by
 obtain ⟨a,G,rfl,B⟩:=h.one;have y:=Lib.hid B;have F:=Lib.hid E;have H:=eI D;clear B h E
 by_cases M:5 < l.length
 ·go_enter Tryz.func105,Tryz.ntmps105;go_wp2
  go_ret;exact eQ.mk false rfl (by simp [oq];intro h;omega) (Below.refl _ _)
 ·have I:decide (5 < (l.length:Int))=false:=by simp;omega
  have z:Hid (oq l=l.all fun s=>jj s.data.toList):=by
   show _=_;rw [oq,decide_eq_true (by omega),Bool.true_and]
  go_enter Tryz.func105,Tryz.ntmps105;go_wp2
  go_loopw [10] (fun i K=>∃k:Nat,k≤l.length∧i= .int .i64 k∧Hid (∀(j:Nat) (x:j < l.length),j < k→jj l[j].data.toList=true)∧Below w.heap.size w K) (fun i _=>l.length - (intOf i).toNat)
  case atStart=>exact ⟨0,Nat.zero_le _,rfl,(fun j x J=>by omega),Below.refl _ _⟩
  case round=>
   obtain ⟨k,N,rfl,A,c⟩:=hrel;have g:=Lib.hid c
   by_cases d:k < l.length
   ·obtain ⟨b,r,rfl,u,n⟩:=y.out k d
    have C:wr.cell? ⟨b,r+k,none⟩=some (.string l[k]):=by
     rw [c.cell (p:=⟨b,r+k,none⟩) u,n,dK,List.getElem?_map,List.getElem?_eq_getElem d];rfl
    have o:wr.cell? ⟨0,0,none⟩=some (.int .i64 m):=(c.cell H).trans D;have q:=F.out l[k] (List.getElem_mem d);clear n y c
    cases t:jj l[k].data.toList with
    | true=>
     go_wp2_with fail
     refine (iy _ m _ q o).mono ?_;rintro e L ⟨rfl,f⟩;rw [t];go_wp2_with fail
     exact ⟨⟨k+1,by omega,by go_num,D8 (p:=fun s:ByteArray=>jj s.data.toList) d A.out t,g.out.trans (f.mono g.out.size)⟩,by simp [intOf];omega⟩
    | false=>
     go_wp2_with fail
     refine (iy _ m _ q o).mono ?_;rintro e L ⟨rfl,f⟩;rw [t];go_wp2_with fail
     go_ret;exact eQ.mk false rfl (by rw [z.out];exact xx (p:=fun s:ByteArray=>jj s.data.toList) d t) (g.out.trans (f.mono g.out.size))
   ·clear c;go_wp2
    go_ret;exact eQ.mk true rfl (by rw [z.out];exact xy (p:=fun s:ByteArray=>jj s.data.toList) (fun j x=>A.out j x (by omega))) g.out
def qg (x:Int×Int):Bool:=cF x.2 0 32 && cF x.1 0 4294967295 && decide (x.1 % 2 ^ (32 - x.2).toNat=0)
def ik (l:List (Int×Int)):List Value:=l.flatMap fun x=>[.int .i64 x.1,.int .i64 x.2]
def nr (l:List (Int×Int)):Bool:=decide (l.length≤5) && l.all qg
theorem Gm (A n:Nat) (f:A≤4294967295) (b:n≤32):bits .and .u64 (A:Int) ((2:Int) ^ n - 1)=(((A % 2 ^ n:Nat)):Int):=by
 have a:1≤2 ^ n:=Nat.one_le_two_pow;have c:2 ^ n≤2 ^ 32:=Nat.pow_le_pow_right (by decide) b;have d:(2:Nat) ^ 32=4294967296:=by decide
 have e:((2:Int) ^ n - 1)=((2 ^ n - 1:Nat):Int):=by
  rw [Int.natCast_sub a,Int.natCast_pow];rfl
 rw [e,u64_and_nat _ _ (by omega) (by omega),Nat.and_two_pow_sub_one_eq_mod]
theorem Hx (a l:Int) (b:0≤a) (g:a≤4294967295):decide (a % 2 ^ (32 - l).toNat=0)=(bits BinOp.and IntKind.u64 a (IntKind.u64.wrap (IntKind.u64.wrap (2 ^ (32 - l).toNat) - 1)) == 0)∨32 < (32 - l).toNat:=by
 obtain ⟨A,rfl⟩:=Int.eq_ofNat_of_zero_le b;obtain ⟨n,c⟩:∃n,(32 - l).toNat=n:=⟨_,rfl⟩;rw [c]
 by_cases h:32 < n
 ·exact Or.inr h
 left
 have i:1≤2 ^ n:=Nat.one_le_two_pow;have j:2 ^ n≤2 ^ 32:=Nat.pow_le_pow_right (by decide) (by omega);have k:(2:Nat) ^ 32=4294967296:=by decide
 have e:((2:Int) ^ n)=((2 ^ n:Nat):Int):=by rw [Int.natCast_pow];rfl
 have d:IntKind.u64.wrap (2 ^ n)=(2:Int) ^ n:=by rw [e,IntKind.wrap_u64];omega
 have f:IntKind.u64.wrap ((2:Int) ^ n - 1)=(2:Int) ^ n - 1:=by rw [e,IntKind.wrap_u64];omega
 rw [d,f,Gm A n (by omega) (by omega),e,Bool.eq_iff_iff];simp only [decide_eq_true_eq,beq_iff_eq];omega
theorem Hw (l:List (Int×Int)) (k:Nat) (h:k < l.length):(ik l)[k * 2]? =some (.int .i64 l[k].1):=by
 induction l generalizing k with
 | nil=>simp at h
 | cons x r ih=>
  cases k with
  | zero=>rfl
  | succ k=>
   have:=ih k (by simpa using h);rw [show (k+1) * 2=k * 2+1+1 by omega]
   simpa [ik] using this
theorem Eo (l:List (Int×Int)) (k:Nat) (h:k < l.length):(ik l)[k * 2+1]? =some (.int .i64 l[k].2):=by
 induction l generalizing k with
 | nil=>simp at h
 | cons x r ih=>
  cases k with
  | zero=>rfl
  | succ k=>
   have:=ih k (by simpa using h);rw [show (k+1) * 2+1=k * 2+1+1+1 by omega]
   simpa [ik] using this
theorem qh (a l:Int) (w:World):Calls Tryz.prog 159 #[.agg #[.int .i64 a,.int .i64 l]] w (eQ (qg (a,l)) w):=by
 cases b:cF l 0 32 with
 | false=>
  go_enter Tryz.func159,Tryz.ntmps159;go_wp2_with (go_at_call 108;refine (eO _ _ _ _).mono ?_;rintro e d ⟨rfl,rfl⟩)
  go_ret;exact eQ.mk false rfl (by simp [qg,b]) ((Below.refl _ _).alloc (Nat.le_refl _) _)
 | true=>
  cases c:cF a 0 4294967295 with
  | false=>
   go_enter Tryz.func159,Tryz.ntmps159;go_wp2_with (go_at_call 108;refine (eO _ _ _ _).mono ?_;rintro e d ⟨rfl,rfl⟩)
   go_ret;exact eQ.mk false rfl (by simp [qg,c]) ((Below.refl _ _).alloc (Nat.le_refl _) _)
  | true=>
   have h:0≤l:=by simp [cF] at b;omega
   have i:l≤32:=by simp [cF] at b;omega
   have f:0≤a:=by simp [cF] at c;omega
   have g:a≤4294967295:=by simp [cF] at c;omega
   go_enter Tryz.func159,Tryz.ntmps159;go_wp2_with (go_at_call 108;refine (eO _ _ _ _).mono ?_;rintro e d ⟨rfl,rfl⟩)
   go_ret;refine eQ.mk _ rfl ?_ ((Below.refl _ _).alloc (Nat.le_refl _) _);rw [qg,b,c,Bool.true_and,Bool.true_and];exact (Hx a l f g).resolve_right (by omega)
theorem wW (v:Value) (l:List (Int×Int)) (w:World) (h:bg w v l.length 2 (ik l)) (Q:l.length≤140737488351232):
  Calls Tryz.prog 106 #[v] w (eQ (nr l) w):=by
 obtain ⟨a,I,rfl,H⟩:=h.shape;have z:=Lib.hid H;clear H h
 by_cases O:5 < l.length
 ·go_enter Tryz.func106,Tryz.ntmps106;go_wp2
  go_ret;exact eQ.mk false rfl (by simp [nr];intro h;omega) (Below.refl _ _)
 ·have J:decide (5 < (l.length:Int))=false:=by simp;omega
  have D:Hid (nr l=l.all qg):=by
   show _=_;rw [nr,decide_eq_true (by omega),Bool.true_and]
  go_enter Tryz.func106,Tryz.ntmps106;go_wp2
  go_loopw [10] (fun i N=>∃k:Nat,k≤l.length∧i= .int .i64 k∧Hid (∀(j:Nat) (A:j < l.length),j < k→qg l[j]=true)∧Below w.heap.size w N) (fun i _=>l.length - (intOf i).toNat)
  case atStart=>exact ⟨0,Nat.zero_le _,rfl,(fun j A M=>by omega),Below.refl _ _⟩
  case round=>
   obtain ⟨k,P,rfl,E,c⟩:=hrel;have n:=Lib.hid c
   by_cases f:k < l.length
   ·obtain ⟨b,B,rfl,t,q⟩:=z.out k 0 f (by decide);obtain ⟨s,d,G,_,m⟩:=z.out k 1 f (by decide)
    obtain ⟨rfl,rfl⟩:s=b∧d=B:=by
     have:=(Option.some.inj G).symm;simp at this;exact this
    obtain ⟨x,y⟩:∃x,l[k]=x:=⟨_,rfl⟩
    have K:wr.cell? ⟨s,d+k * 2,none⟩=some (.int .i64 x.1):=by
     rw [c.cell (p:=⟨s,d+k * 2,none⟩) t];rw [Nat.add_zero] at q;rw [q,Hw l k f,y]
    have L:wr.cell? ⟨s,d+k * 2+1,none⟩=some (.int .i64 x.2):=by
     rw [c.cell (p:=⟨s,d+k * 2+1,none⟩) t];rw [←Nat.add_assoc] at m;rw [m,Eo l k f,y]
    have F:=Lib.hid y;clear q m z c y G
    cases u:qg x with
    | true=>
     have r:qg (x.1,x.2)=true:=u;go_wp2_with fail
     refine (qh _ _ _).mono ?_;rintro e C ⟨rfl,g⟩;rw [r];have o:Hid (Below w.heap.size w C):=(n.out.alloc n.out.size _).trans (g.mono (by have:=n.out.size;simp;omega));clear g;go_wp2_with fail
     exact ⟨⟨k+1,by omega,by go_num,D8 (p:=qg) f E.out (by rw [F.out];exact u),o.out⟩,by simp [intOf];omega⟩
    | false=>
     have r:qg (x.1,x.2)=false:=u;go_wp2_with fail
     refine (qh _ _ _).mono ?_;rintro e C ⟨rfl,g⟩;rw [r];have o:Hid (Below w.heap.size w C):=(n.out.alloc n.out.size _).trans (g.mono (by have:=n.out.size;simp;omega));clear g;go_wp2_with fail
     go_ret;exact eQ.mk false rfl (by rw [D.out];exact xx (p:=qg) f (by rw [F.out];exact u)) o.out
   ·clear c;go_wp2
    go_ret;exact eQ.mk true rfl (by rw [D.out];exact xy (p:=qg) (fun j A=>E.out j A (by omega))) n.out
def cH (l:List (ByteArray×ByteArray)):List Value:=l.flatMap fun x=>[.string x.1,.string x.2]
theorem tp (l:List (ByteArray×ByteArray)) (k:Nat) (h:k < l.length):(cH l)[k * 2]? =some (.string l[k].1):=by
 induction l generalizing k with
 | nil=>simp at h
 | cons x r ih=>
  cases k with
  | zero=>rfl
  | succ k=>
   have:=ih k (by simpa using h);rw [show (k+1) * 2=k * 2+1+1 by omega]
   simpa [cH] using this
theorem qD (l:List (ByteArray×ByteArray)) (k:Nat) (h:k < l.length):(cH l)[k * 2+1]? =some (.string l[k].2):=by
 induction l generalizing k with
 | nil=>simp at h
 | cons x r ih=>
  cases k with
  | zero=>rfl
  | succ k=>
   have:=ih k (by simpa using h);rw [show (k+1) * 2+1=k * 2+1+1+1 by omega]
   simpa [cH] using this
def qT (l:List (ByteArray×ByteArray)) (s:ByteArray):Bool:=l.any fun x=>x.1.toList == s.toList
theorem rF (v:Value) (l:List (ByteArray×ByteArray)) (s:ByteArray) (w:World) (h:bg w v l.length 2 (cH l)) (M:l.length≤140737488351232):
  Calls Tryz.prog 161 #[v,.string s] w (eQ (qT l s) w):=by
 obtain ⟨a,H,rfl,F⟩:=h.shape;have z:=Lib.hid F;clear F h;go_enter Tryz.func161,Tryz.ntmps161;go_wp2
 go_loopw [9] (fun i K=>∃k:Nat,k≤l.length∧i= .int .i64 k∧Hid (∀(j:Nat) (u:j < l.length),j < k→(l[j].1.toList == s.toList)=false)∧Below w.heap.size w K) (fun i _=>l.length - (intOf i).toNat)
 case atStart=>exact ⟨0,Nat.zero_le _,rfl,(fun j u A=>by omega),Below.refl _ _⟩
 case round=>
  obtain ⟨k,L,rfl,C,c⟩:=hrel;have y:=Lib.hid c
  by_cases g:k < l.length
  ·obtain ⟨b,B,rfl,t,m⟩:=z.out k 0 g (by decide);obtain ⟨r,d,E,_,f⟩:=z.out k 1 g (by decide)
   obtain ⟨rfl,rfl⟩:r=b∧d=B:=by
    have:=(Option.some.inj E).symm;simp at this;exact this
   obtain ⟨x,n⟩:∃x,l[k]=x:=⟨_,rfl⟩
   have I:wr.cell? ⟨r,d+k * 2,none⟩=some (.string x.1):=by
    rw [c.cell (p:=⟨r,d+k * 2,none⟩) t];rw [Nat.add_zero] at m;rw [m,tp l k g,n]
   have J:wr.cell? ⟨r,d+k * 2+1,none⟩=some (.string x.2):=by
    rw [c.cell (p:=⟨r,d+k * 2+1,none⟩) t];rw [←Nat.add_assoc] at f;rw [f,qD l k g,n]
   have D:=Lib.hid n;clear m f z c n E;have q:∀o,Hid (Below w.heap.size w (wr.alloc o)):=fun o=>y.out.alloc y.out.size o
   cases G:(x.1.toList == s.toList) with
   | true=>
    go_wp2
    go_ret;refine eQ.mk true rfl ?_ (q _).out;rw [qT,List.any_eq_true];exact ⟨l[k],List.getElem_mem g,by rw [D.out];exact G⟩
   | false=>
    go_wp2
    exact ⟨⟨k+1,by omega,by go_num,(fun j u A=>by
     by_cases e:j < k
     ·exact C.out j u e
     ·have:j=k:=by omega
      subst this
      rw [D.out];exact G),(q _).out⟩,by simp [intOf];omega⟩
  ·clear c;go_wp2
   go_ret;refine eQ.mk false rfl ?_ y.out;rw [qT,List.any_eq_false];intro x n;obtain ⟨j,u,rfl⟩:=List.mem_iff_getElem.1 n;rw [C.out j u (by omega)];simp
theorem jQ (s:ByteArray) (w:World) (c:s.size≤maxLen):Calls Tryz.prog 160 #[.string s] w fun e d=>e= .returned (.bool (mF s.data.toList))∧d=w:=
 (uq s w c).mono fun _ _ ⟨a,b⟩=>⟨a,b.symm⟩
def mq (l:List (ByteArray×ByteArray)) (k:Nat):Bool:=mF (l.getD k (ByteArray.empty,ByteArray.empty)).1.data.toList && mF (l.getD k (ByteArray.empty,ByteArray.empty)).2.data.toList && !qT (l.take k) (l.getD k (ByteArray.empty,ByteArray.empty)).1
def kG (l:List (ByteArray×ByteArray)):Bool:=decide (l.length≤5) && (List.range l.length).all (mq l)
theorem DR (l:List (ByteArray×ByteArray)) (k:Nat) (h:k≤l.length):cH (l.take k)=(cH l).take (k * 2):=by
 induction l generalizing k with
 | nil=>simp [cH]
 | cons x r ih=>
  cases k with
  | zero=>simp [cH]
  | succ k=>
   have:=ih k (by simpa using h);rw [show (k+1) * 2=k * 2+1+1 by omega]
   simp [cH] at this ⊢;exact this
theorem xq (l:List (ByteArray×ByteArray)):(cH l).length=l.length * 2:=by
 induction l with
 | nil=>rfl
 | cons x r ih=>simp [cH] at ih ⊢;omega
theorem DD {w:World} {b d:Nat} {l:List (ByteArray×ByteArray)} (h:∀j:Nat,j < l.length * 2→w.cell? ⟨b,d+j,none⟩=(cH l)[j]?) (k:Nat) (g:k≤l.length) (a:Nat) (e:k≤a):bg w (.slice (some ⟨b,d,none⟩) k a) (l.take k).length 2 (cH (l.take k)):=by
 have c:(l.take k).length=k:=by rw [List.length_take,Nat.min_eq_left g]
 refine ⟨xq _,.inr ⟨b,d,a,by rw [c],by rw [c];exact e,fun j f=>?_⟩⟩
 rw [c] at f;rw [h j (by omega),DR l k g,List.getElem?_take_of_lt f]
theorem wi (v:Value) (l:List (ByteArray×ByteArray)) (w:World) (h:bg w v l.length 2 (cH l)) (hl:l.length≤140737488351232) (X:∀x∈l,x.1.size≤maxLen∧x.2.size≤maxLen):
  Calls Tryz.prog 107 #[v] w (eQ (kG l) w):=by
 have I:=Lib.hid h;obtain ⟨a,B,rfl,W⟩:=h.shape;have M:=Lib.hid W;have U:=Lib.hid X;clear W h X
 by_cases h5:5 < l.length
 ·go_enter Tryz.func107,Tryz.ntmps107;go_wp2
  go_ret;exact eQ.mk false rfl (by simp [kG];intro h;omega) (Below.refl _ _)
 ·have Z:decide (5 < (l.length:Int))=false:=by simp;omega
  have S:Hid (kG l=(List.range l.length).all (mq l)):=by
   show _=_;rw [kG,decide_eq_true (by omega),Bool.true_and]
  go_enter Tryz.func107,Tryz.ntmps107;go_wp2
  go_loopw [10] (fun i D=>∃k:Nat,k≤l.length∧i= .int .i64 k∧Hid (∀(j:Nat),j < k→mq l j=true)∧Below w.heap.size w D) (fun i _=>l.length - (intOf i).toNat)
  case atStart=>exact ⟨0,Nat.zero_le _,rfl,(fun j a2=>by omega),Below.refl _ _⟩
  case round=>
   obtain ⟨k,hk,rfl,T,d⟩:=hrel;have y:=Lib.hid d
   by_cases f:k < l.length
   ·obtain ⟨b,P,rfl,F,C⟩:=M.out k 0 f (by decide);obtain ⟨E,c,V,_,q⟩:=M.out k 1 f (by decide)
    obtain ⟨rfl,rfl⟩:E=b∧c=P:=by
     have:=(Option.some.inj V).symm;simp at this;exact this
    obtain ⟨x,G⟩:∃x,l[k]=x:=⟨_,rfl⟩
    have a0:wr.cell? ⟨E,c+k * 2,none⟩=some (.string x.1):=by
     rw [d.cell (p:=⟨E,c+k * 2,none⟩) F];rw [Nat.add_zero] at C;rw [C,tp l k f,G]
    have a1:wr.cell? ⟨E,c+k * 2+1,none⟩=some (.string x.2):=by
     rw [d.cell (p:=⟨E,c+k * 2+1,none⟩) F];rw [←Nat.add_assoc] at q;rw [q,qD l k f,G]
    have H:=U.out l[k] (List.getElem_mem f);rw [G] at H;obtain ⟨L,R⟩:=H
    have t:Hid (∀(D:World),Below w.heap.size w D→bg D (.slice (some ⟨E,c,none⟩) k B) (l.take k).length 2 (cH (l.take k))):=by
     show ∀_,_;intro D N;refine DD (fun j J=>?_) k hk B (by have:=I.out.cap;omega);obtain ⟨a4,⟨h0,_⟩ | ⟨b2,o2,c2,r,_,O⟩⟩:=I.out.below N
     ·omega
     ·injection r with r;injection r with r;injection r with e1 e2;subst e1 e2;exact O j J
    have s:Hid (mq l k=(mF x.1.data.toList && mF x.2.data.toList && !qT (l.take k) x.1)):=by
     show _=_;have:l.getD k (ByteArray.empty,ByteArray.empty)=x:=by rw [List.getD_eq_getElem?_getD,List.getElem?_eq_getElem f,←G];rfl
     rw [mq,this]
    have m:Hid (mq l k=false→kG l=false):=by
     show _→_;intro hf;rw [S.out]
     cases e:(List.range l.length).all (mq l) with
     | false=>rfl
     | true=>
      rw [List.all_eq_true] at e;have:=e k (List.mem_range.2 f);rw [hf] at this;cases this
    have a3:(k:Int)≤(B:Int):=by have:=I.out.cap;omega
    have g:∀o,Below w.heap.size w (wr.alloc o).drew:=fun o=>(y.out.alloc y.out.size o).drew;have u:∀o,w.heap.size≤(wr.alloc o).drew.heap.size:=fun o=>(g o).size;clear C q M d G V I U
    cases K:mF x.1.data.toList with
    | false=>
     have A:=Lib.hid (m.out (by rw [s.out,K];rfl));go_wp2_with fail
     go_quiet ((go_at_call 160;exact Calls.quiet_of_same (jQ _ _ L)))
     go_wp2_with fail
     go_ret;exact eQ.mk false rfl A.out ((y.out.alloc y.out.size _).trans (bA _ _ _))
    | true=>
     cases Q:mF x.2.data.toList with
     | false=>
      have A:=Lib.hid (m.out (by rw [s.out,K,Q];rfl));go_wp2_with fail
      go_quiet ((go_at_call 160;exact Calls.quiet_of_same (jQ _ _ (by first | exact L | exact R))))
      go_wp2_with fail
      go_ret;exact eQ.mk false rfl A.out ((y.out.alloc y.out.size _).trans (bA _ _ _))
     | true=>
      cases Y:qT (l.take k) x.1 with
      | true=>
       have A:=Lib.hid (m.out (by rw [s.out,K,Q,Y];rfl));go_wp2_with fail
       go_region_with (first
        | (go_at_call 160;refine (jQ _ _ ?_).mono ?_;(first | exact L | exact R);rintro e D ⟨rfl,rfl⟩)
        | (go_at_call 161;refine (rF _ (l.take k) _ _ ?_ ?_).mono ?_;(exact t.out _ (g _));(rw [List.length_take];omega);rintro e w1 ⟨rfl,n⟩;have z:=Lib.hid ((g _).trans (n.mono (u _)));clear n))
       all_goals
        go_wp2_with fail
        go_ret;exact eQ.mk false rfl A.out z.out
      | false=>
       have A:Hid (mq l k=true):=by show _=_;rw [s.out,K,Q,Y];rfl
       go_wp2_with fail
       go_region_with (first
        | (go_at_call 160;refine (jQ _ _ ?_).mono ?_;(first | exact L | exact R);rintro e D ⟨rfl,rfl⟩)
        | (go_at_call 161;refine (rF _ (l.take k) _ _ ?_ ?_).mono ?_;(exact t.out _ (g _));(rw [List.length_take];omega);rintro e w1 ⟨rfl,n⟩;have z:=Lib.hid ((g _).trans (n.mono (u _)));clear n))
       all_goals
        go_wp2_with fail
        refine ⟨⟨k+1,by omega,by go_num,fun j J=>?_,z.out⟩,by simp [intOf];omega⟩
        by_cases e:j < k
        ·exact T.out j e
        ·rw [show j=k by omega,A.out]
   ·clear d;go_wp2
    go_ret;refine eQ.mk true rfl ?_ y.out;rw [S.out,List.all_eq_true];intro j J;exact T.out j (by have:=List.mem_range.1 J;omega)
theorem bg.elem {w:World} {a:Option Addr} {n m d:Nat} {g:List Value} (h:bg w (.slice a n d) m 1 g) (k:Nat) (j:k < m):∃b c,a=some ⟨b,c,none⟩∧b < w.heap.size∧w.cell? ⟨b,c+k,none⟩=g[k]? :=by
 obtain ⟨l,f,e,i⟩:=h.one;injection e with e1 e2 e3;subst e1;exact i k j
end Go.Proofs.YtofpegbpgkkgkaaGreatDoor
