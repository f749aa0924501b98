import Derived.Test.YtofpegbpgkkgkaaGreatDoorS00
import Derived.Lib.IndexMore
import Derived.Lib.IndexLaws
import Derived.Lib.IndexAny
import Derived.Lib.Split
import Derived.Lib.SplitLaws
import Derived.Lib.Case
import Derived.Test.YtofpegbpgkkgkaaGreatDoorProg
import Derived.WalkKit
import Derived.WalkSpells
import Derived.WalkLawsBesides
import Derived.Lib.Strings
import Derived.Lib.IndexBytes
import Derived.Laws.BitsLemmas
import Derived.Laws.IdiomStrings
import Derived.Laws.MakeOwn
import Derived.Lib.ConvBytes
import Derived.Lib.UnsafeStr
import Derived.Shelf.Strings.Builder1
import Derived.Shelf.Strings.Builder2
import Derived.Shelf.Strings.OnBuilder
import Derived.Shelf.Small.Utf8
import Derived.Shelf.Small.Bits
import Derived.Shelf.Small.Strs
import Derived.Shelf.Small.Wraps
import Derived.Shelf.Strings.BuilderF
import Derived.Shelf.Strings.BuilderK
import Derived.Shelf.Strconv.Atoi
import Derived.Shelf.Strconv.Itoa0
import Derived.Shelf.Strconv.Itoa1
import Derived.Shelf.LaysM
import Derived.Shelf.Strconv.Itoa2
import Derived.Shelf.Strconv.Itoa3
import Derived.Shelf.Strconv.Clone
import Derived.Shelf.Strings.Search1
import Derived.Shelf.Strings.Search2
import Derived.Shelf.Strings.Search3
import Derived.Shelf.Strings.Cut
import Derived.Shelf.Strings.Count
import Derived.Shelf.Strings.Shaped
import Derived.Shelf.Strings.Prefix
import Derived.Shelf.Strings.Split
import Derived.Shelf.Strings.Fold
import Derived.Shelf.Strings.SplitShaped
import Derived.Shelf.Unicode.Latin
import Derived.Shelf.Unicode.DecodeSlow
import Derived.Shelf.Unicode.DecodeAny
import Derived.Shelf.Unicode.CaseLookup
import Derived.Shelf.Unicode.CaseConvert
import Derived.Shelf.Unicode.CaseTo
import Derived.Shelf.Unicode.CaseLaid
import Derived.Ground.SlgmProg
import Derived.Shelf.SortM.Plain
import Derived.Shelf.SortM.SortNone
import Derived.Shelf.Bytes.Small
import Derived.Laws.BitsAllLaws
import Derived.Deep.QuietTactic
import Derived.BigQuiet
import Derived.Deep.RegionWith
import Derived.Shelf.Spec.BytesIndexFunc
import Derived.Lib.FrozenHead
import Derived.Deep.AppendLies
import Derived.Lib.DecodeN
import Derived.Test.YtofpegbpgkkgkaaGreatDoorChecked
import Derived.Conc.LoneCalls
import Derived.KernelRfl
import Derived.Conc.LoneSelect
namespace Go.Proofs.YtofpegbpgkkgkaaGreatDoor
set_option maxHeartbeats 8000000
set_option maxRecDepth 1000000
open Go
def DP (c:Int):Bool:=(decide (97≤c) && decide (c≤122)) || (decide (65≤c) && decide (c≤90))
def gW (c:Int):Bool:=decide (48≤c) && decide (c≤57)
def ET (c:UInt8):Bool:=DP c.toNat || gW c.toNat
def vV (l m:List UInt8):Bool:=l.all fun c=>ET c || !decide (Lib.indexByte m c < 0)
def o8 (l:List UInt8):Bool:=decide (1≤l.length) && decide (l.length≤20) && !Lib.hasPrefix l [45] && !Lib.hasSuffix l [45] && vV l [45]
def pa (l:List UInt8):Bool:=decide (1≤l.length) && decide (l.length≤20) && !Lib.hasPrefix l [46] && !Lib.hasSuffix l [46] && !Lib.contains l [46,46] && vV l [45,95,43,46]
def bS (c:UInt8):List UInt8→List UInt8×List UInt8×Bool
 | []=>([],[],false)
 | b::r=>if b=c then ([],r,true) else (b::(bS c r).1,(bS c r).2.1,(bS c r).2.2)
def df (c:UInt8):List UInt8→List (List UInt8)
 | []=>[[]]
 | b::r=>if b=c then []::df c r else (b::(df c r).headD [])::(df c r).tail
def iK (l:List UInt8):Bool:=decide (l.length≤40) && (df 46 l).all o8
def sW (l:List UInt8):Bool:=decide (1≤l.length) && decide (l.length≤20) && !(l.getD 0 0 == 45) && !(l.getD (l.length - 1) 0 == 45) && l.all fun c=>ET c || c == 45
theorem nA (l:List UInt8) (c:UInt8) (h:1≤l.length):Lib.hasPrefix l [c]=(l.getD 0 0 == c):=by
 cases l with
 | nil=>simp at h
 | cons b r=>
  rw [Bool.eq_iff_iff];simp [Lib.hasPrefix,List.isPrefixOf];exact eq_comm
theorem uw (l:List UInt8) (c:UInt8) (h:1≤l.length):Lib.hasSuffix l [c]=(l.getD (l.length - 1) 0 == c):=by
 rw [Lib.hasSuffix,List.isSuffixOf];have a:1≤l.reverse.length:=by simpa using h
 have:=nA l.reverse c a;rw [Lib.hasPrefix] at this;simp only [List.reverse_cons,List.reverse_nil,List.nil_append];rw [this]
 congr 1
 rw [List.getD_eq_getElem?_getD,List.getD_eq_getElem?_getD,List.getElem?_reverse (show 0 < l.length by omega)];simp
theorem uy (m:List UInt8) (c:UInt8):(!decide (Lib.indexByte m c < 0))=m.contains c:=by
 rw [Lib.contains_iff_indexByte];have:=Lib.indexByte_ge m c
 by_cases h:Lib.indexByte m c < 0
 ·have a:¬0≤Lib.indexByte m c:=by omega
  simp [h,a]
 ·have a:0≤Lib.indexByte m c:=by omega
  simp [h,a]
theorem CQ (l:List UInt8):o8 l=sW l:=by
 unfold o8 sW
 by_cases h:1≤l.length
 ·rw [nA l 45 h,uw l 45 h]
  congr 1
  unfold vV
  congr 1
  funext c
  rw [uy,Bool.eq_iff_iff];simp
 ·simp [h]
theorem kU (c:UInt8):∀l:List UInt8,(bS c l).2.2=true→l=(bS c l).1++c::(bS c l).2.1∧df c l=(bS c l).1::df c (bS c l).2.1∧Lib.indexByte l c=((bS c l).1.length:Int)
 | [],h=>by simp [bS] at h
 | b::r,h=>by
  by_cases a:b=c
  ·subst a;simp [bS,df,Lib.indexByte]
  ·have d:(b == c)=false:=by simpa using a
   have i:(bS c r).2.2=true:=by simpa [bS,a] using h
   obtain ⟨e,f,g⟩:=kU c r i;refine ⟨?_,?_,?_⟩
   ·simp only [bS,a,if_false,List.cons_append];rw [←e]
   ·simp only [bS,df,a,if_false];rw [f];rfl
   ·simp only [bS,a,if_false,Lib.indexByte,d,Bool.false_eq_true];rw [g];have:(((bS c r).1.length:Int) == -1)=false:=by rw [beq_eq_false_iff_ne];omega
    rw [this];simp
theorem kF (c:UInt8):∀l:List UInt8,(bS c l).2.2=false→bS c l=(l,[],false)∧df c l=[l]∧Lib.indexByte l c= -1
 | [],h=>by simp [bS,df,Lib.indexByte]
 | b::r,h=>by
  by_cases a:b=c
  ·subst a;simp [bS] at h
  ·have d:(b == c)=false:=by simpa using a
   have i:(bS c r).2.2=false:=by simpa [bS,a] using h
   obtain ⟨e,f,g⟩:=kF c r i;refine ⟨?_,?_,?_⟩
   ·simp only [bS,a,if_false];rw [e]
   ·simp only [df,a,if_false];rw [f];rfl
   ·simp only [Lib.indexByte,d,Bool.false_eq_true,if_false];rw [g];rfl
theorem xm (c:UInt8):∀(l:List UInt8) (i:Nat),l[i]? =some c→(∀j:Nat,j < i→l[j]? ≠some c)→bS c l=(l.take i,l.drop (i+1),true)
 | [],i,h,_=>by simp at h
 | b::r,0,h,_=>by
  have:b=c:=by simpa using h
  simp [bS,this]
 | b::r,i+1,h,hn=>by
  have a:b≠c:=by simpa using hn 0 (by omega)
  have d:=xm c r i (by simpa using h) (fun j e=>by simpa using hn (j+1) (by omega));simp only [bS,a,if_false];rw [d];simp
theorem rB (c:UInt8):∀(l:List UInt8),(∀j:Nat,l[j]? ≠some c)→bS c l=(l,[],false)
 | [],_=>rfl
 | b::r,hn=>by
  have a:b≠c:=by simpa using hn 0
  have d:=rB c r (fun j=>by simpa using hn (j+1));simp only [bS,a,if_false];rw [d]
theorem E9 (c:UInt8) (l:List UInt8):bS c l=if 0≤Lib.indexByte l c then (l.take (Lib.indexByte l c).toNat,l.drop ((Lib.indexByte l c).toNat+1),true) else (l,[],false):=by
 have b:=Lib.indexByte_ge l c
 by_cases h:0≤Lib.indexByte l c
 ·rw [if_pos h];obtain ⟨n,a⟩:=Int.eq_ofNat_of_zero_le h;have:=Lib.indexByte_some a;rw [a];exact xm c l n this.1 this.2
 ·rw [if_neg h];exact rB c l (Lib.indexByte_none (by omega))
theorem pA (c:UInt8):∀(k:Nat) (l:List UInt8),l.count c=k→Lib.splitK [c] 0 k l=df c l
 | 0,l,h=>by
  have v:∀j:Nat,l[j]? ≠some c:=fun j d=>by
   have:=List.mem_of_getElem? d;rw [List.count_eq_zero] at h;exact h this
  have r:(bS c l).2.2=false:=by rw [rB c l v]
  rw [(kF c l r).2.1];rfl
 | k+1,l,h=>by
  cases m:(bS c l).2.2 with
  | false=>
   have o:=(kF c l m).2.2;exfalso;have:c∈l:=List.count_pos_iff.1 (by omega);obtain ⟨j,d,e⟩:=List.mem_iff_getElem.1 this;exact Lib.indexByte_none o j (by rw [List.getElem?_eq_getElem d,e])
  | true=>
   obtain ⟨f,n,i⟩:=kU c l m
   have g:(bS c l).1.count c=0:=by
    rw [List.count_eq_zero];intro u;obtain ⟨j,d,e⟩:=List.mem_iff_getElem.1 u;refine (Lib.indexByte_some i).2 j d ?_;rw [f,List.getElem?_append_left d,List.getElem?_eq_getElem d,e]
   have t:(bS c l).2.1.count c=k:=by
    have:=h;rw [f,List.count_append,g,List.count_cons_self] at this;omega
   have y:=pA c k _ t;have s:(((bS c l).1.length:Int) == -1)=false:=by rw [beq_eq_false_iff_ne];omega
   rw [Lib.splitK,Lib.index_one,i,s,n,←y]
   have p:∀a b:List UInt8,l=a++c::b→List.take ((a.length:Int).toNat+0) l=a∧List.drop ((a.length:Int).toNat+[c].length) l=b:=by
    rintro a b rfl;have x:a.length+1 - a.length=1:=by omega
    simp [List.drop_append,x]
   obtain ⟨w,q⟩:=p _ _ f;rw [w,q];rfl
theorem Gn (l:List UInt8):Lib.split l [46]=df 46 l:=by
 rw [Lib.split,Lib.count_one];exact pA 46 _ l rfl
def yX (l:List UInt8):Bool:= !l.isEmpty && decide (l.length≤40) && (df 46 l).all sW
theorem xq (l:List UInt8):iK l=yX l:=by
 unfold iK yX;have:o8=sW:=funext CQ;rw [this]
 cases l with
 | nil=>rfl
 | cons b r=>simp
theorem oe (c:UInt8):∀(l:List UInt8) (b:UInt8),b∈l→b=c∨∃p∈df c l,b∈p
 | [],b,h=>by cases h
 | x::r,b,h=>by
  by_cases f:x=c
  ·rcases List.mem_cons.1 h with e | h
   ·left;rw [e,f]
   ·rcases oe c r b h with e | ⟨p,a,d⟩
    ·exact Or.inl e
    ·right;refine ⟨p,?_,d⟩;simp [df,f,a]
  ·simp only [df,f,if_false]
   rcases List.mem_cons.1 h with e | h
   ·right;exact ⟨_,List.mem_cons_self,by rw [e];exact List.mem_cons_self⟩
   ·rcases oe c r b h with e | ⟨p,a,d⟩
    ·exact Or.inl e
    ·right
     cases g:df c r with
     | nil=>rw [g] at a;cases a
     | cons q qs=>
      rw [g] at a
      rcases List.mem_cons.1 a with e | a
      ·subst e;exact ⟨_,List.mem_cons_self,List.mem_cons_of_mem _ d⟩
      ·exact ⟨p,List.mem_cons_of_mem _ a,d⟩
theorem IQ (c:UInt8) (h:ET c=true):c.toNat < 128:=by
 simp only [ET,DP,gW,Bool.or_eq_true,Bool.and_eq_true,decide_eq_true_eq] at h;omega
theorem pK (l:List UInt8) (h:iK l=true):∀(j:Nat) (b:UInt8),l[j]? =some b→b.toNat < 128:=by
 intro j b c;rw [xq] at h;simp only [yX,Bool.and_eq_true,List.all_eq_true] at h
 rcases oe 46 l b (List.mem_of_getElem? c) with e | ⟨p,d,a⟩
 ·rw [e];decide
 ·have:=h.2 p d;simp only [sW,Bool.and_eq_true,List.all_eq_true] at this;have:=this.2 b a;rw [Bool.or_eq_true] at this
  rcases this with h | h
  ·exact IQ b h
  ·have:b=45:=by simpa using h
   rw [this];decide
theorem Fb (l:List UInt8) (h:iK l=true):l.length≤40:=by
 simp only [iK,Bool.and_eq_true,decide_eq_true_eq] at h;exact h.1
theorem rC (c:UInt8) (l x y:List UInt8) (f:Bool) (h:bS c l=(x,y,f)):x.length≤l.length∧y.length≤l.length∧(f=true→y.length < l.length):=by
 cases f with
 | true=>
  have:=(kU c l (by rw [h])).1;rw [h] at this;have e:l.length=x.length+(y.length+1):=by rw [this];simp
  exact ⟨by omega,by omega,fun _=>by omega⟩
 | false=>
  obtain ⟨a,b,_⟩:=kF c l (by rw [h]);rw [a] at h;obtain ⟨rfl,rfl⟩:l=x∧[]=y:=by simpa using h
  exact ⟨Nat.le_refl _,Nat.zero_le _,fun h=>by cases h⟩
theorem pk {p:UInt8→Bool} {l:List UInt8} {k:Nat} {c:UInt8} (b:∀j:Nat,j < k→p (l.getD j 0)=true) (a:l.getD k 0=c) (h:p c=true):∀j:Nat,j < k+1→p (l.getD j 0)=true:=by
 intro j d
 by_cases e:j < k
 ·exact b j e
 ·have:j=k:=by omega
  rw [this,a];exact h
theorem wI {p:UInt8→Bool} {l:List UInt8} (h:∀j:Nat,j < l.length→p (l.getD j 0)=true):l.all p=true:=by
 rw [List.all_eq_true];intro c b;obtain ⟨i,a,e⟩:=List.mem_iff_getElem.1 b;have:=h i a;rw [List.getD_eq_getElem?_getD,List.getElem?_eq_getElem a] at this;rw [←e];exact this
theorem pH {p:UInt8→Bool} {l:List UInt8} {k:Nat} (a:k < l.length) (h:p (l.getD k 0)=false):l.all p=false:=by
 cases e:l.all p with
 | false=>rfl
 | true=>
  rw [List.all_eq_true] at e;have:=e (l.getD k 0) (by rw [List.getD_eq_getElem?_getD,List.getElem?_eq_getElem a];exact List.getElem_mem a);rw [h] at this;cases this
theorem FE {l:List UInt8} (h:¬(1≤l.length∧l.length≤20)):sW l=false:=by
 cases e:sW l with
 | false=>rfl
 | true=>
  simp only [sW,Bool.and_eq_true,decide_eq_true_eq] at e;exact absurd ⟨e.1.1.1.1,e.1.1.1.2⟩ h
open Go.RowKit
theorem cA {a b:Bool} (h:a=b):Ending.returned (.bool a)= .returned (.bool b):=by rw [h]
theorem hU (c:Int) (w:World):Calls Tryz.prog 255 #[.int .u8 c] w fun e a=>e= .returned (.bool (DP c || gW c))∧a=w:=by
 go_enter Tryz.func255,Tryz.ntmps255;go_wp2
 all_goals
  go_ret;exact ⟨cA (by rw [Bool.eq_iff_iff];simp [DP,gW];omega),rfl⟩
def bs (l:List UInt8):ByteArray:=⟨l.toArray⟩
theorem aQ (l:List UInt8):(bs l).data.toList=l:=rfl
theorem aI (l:List UInt8):(bs l).size=l.length:=by simp [bs,ByteArray.size]
theorem CI (s:ByteArray):bs s.data.toList=s:=rfl
theorem gw (l:List UInt8) (a b:Nat):(bs l).extract a b=bs ((l.take b).drop a):=by
 have h:((bs l).extract a b).data.toList=(l.take b).drop a:=by
  rw [Lib.extract_data];simp [aQ,List.drop_take]
 rw [←h,CI]
theorem ca (a b:List UInt8):bs a++bs b=bs (a++b):=by
 have h:(bs a++bs b).data.toList=a++b:=by simp [bs]
 rw [←h,CI]
theorem E0 (l:List UInt8) (k:Nat) (h:k < (bs l).size):(bs l)[k]=l[k]'(by rw [←aI];exact h):=by
 simp [bs,ByteArray.getElem_eq_getElem_data]
def be (l:List UInt8):Nat:=l.foldl (fun n b=>256 * n+b.toNat) 0
theorem ry (l:List UInt8) (b:UInt8):be (l++[b])=256 * be l+b.toNat:=by
 unfold be;rw [List.foldl_append];rfl
theorem GP (l:List UInt8) (k:Nat) (h:k < l.length):be (l.take (k+1))=256 * be (l.take k)+l[k].toNat:=by
 rw [List.take_succ_eq_append_getElem h,ry]
theorem Ad {P:List UInt8→Prop} (a:P []) (c:∀l b,P l→P (l++[b])) (l:List UInt8):P l:=by
 have h:∀r:List UInt8,P r.reverse:=fun r=>by
  induction r with
  | nil=>exact a
  | cons b r ih=>rw [List.reverse_cons];exact c _ _ ih
 have:=h l.reverse
 rwa [List.reverse_reverse] at this
theorem yF (l:List UInt8):be l < 256 ^ l.length:=by
 refine Ad (P:=fun l=>be l < 256 ^ l.length) (by decide) (fun l b a=>?_) l
 ·rw [ry,List.length_append,List.length_singleton,Nat.pow_succ];have:=b.toNat_lt;omega
def aB:Nat→Nat→List UInt8
 | 0,_=>[]
 | k+1,n=>aB k (n / 256)++[UInt8.ofNat n]
theorem bq:∀(k n:Nat),(aB k n).length=k
 | 0,_=>rfl
 | k+1,n=>by rw [aB,List.length_append,bq k];rfl
theorem sg:∀(k n:Nat),be (aB k n)=n % 256 ^ k
 | 0,n=>by simp [aB,be,Nat.mod_one]
 | k+1,n=>by
  rw [aB,ry,sg k,UInt8.toNat_ofNat',Nat.pow_succ' (n:=k)];rw [Nat.mod_mul (x:=n) (a:=256) (b:=256 ^ k)];omega
theorem se:∀(l:List UInt8),aB l.length (be l)=l:=by
 intro l;refine Ad (P:=fun l=>aB l.length (be l)=l) rfl (fun l b a=>?_) l
 ·rw [List.length_append,List.length_singleton,aB,ry];have h:=b.toNat_lt;have e:(256 * be l+b.toNat) / 256=be l:=by omega
  rw [e,a]
  congr 2
  apply UInt8.toNat_inj.1;rw [UInt8.toNat_ofNat'];omega
theorem BC {P:Program} {t e:TypeId} {z:Value} {d a:Nat} (k:P.underlying t=some (.slice e)) (b:(P.info? e).map (fun i=>(i.zero,i.size,i.bytes))=some (some z,d,a)) (n:Nat) (g:a * n≤281474976710656) (m:n≤140737488351232) (w:World):
  (Instr.makeSlice t (.int .i64 (n:Int)) (.int .i64 (n:Int))).run P w= .ok (.slice (some ⟨w.heap.size,0,none⟩) n n) (w.alloc (.cells (madeCells z.cells (n * d)) e)):=by
 obtain ⟨i,h,l,j,c⟩:=info_parts b
 have:=run_make (P:=P) w t e i z k h l .i64 .i64 (n:Int) (n:Int) (by omega) (Int.le_refl _) (by
   have f:((a:Int) * (n:Int))=((a * n:Nat):Int):=by rw [Int.natCast_mul]
   rw [c,f]
   generalize a * n=q at g
   omega) (by omega)
 rw [show ((n:Int)).toNat=n by omega,j] at this
 exact this
theorem oG:∀(j n:Nat),aB (j+1) n=UInt8.ofNat (n / 256 ^ j)::aB j n
 | 0,n=>by simp [aB]
 | j+1,n=>by
  rw [aB,oG j,aB,Nat.div_div_eq_div_mul,←Nat.pow_succ'];rfl
def rm (w:World) (b m j n:Nat):Prop:=∃A:Array Value,w.heap[b]? =some (.cells A 5 (0,0))∧A.toList=List.replicate (m - j) (.int .u8 0)++Lib.byteCells (aB j n)
theorem rm.size {m j n:Nat} {A:Array Value} (a:j≤m) (h:A.toList=List.replicate (m - j) (.int .u8 0)++Lib.byteCells (aB j n)):A.size=m:=by
 have:=congrArg List.length h;rw [List.length_append,List.length_replicate,Lib.byteCells_length,bq,Array.length_toList] at this;omega
theorem rm.set {w:World} {b m j n N I:Nat} (h:rm w b m j n) (k:j < m) (c:I=m - (j+1)) (d:N=n / 256 ^ j):rm (w.setCell ⟨b,I,none⟩ (.int .u8 ((N:Int) % 256))) b m (j+1) n:=by
 have a:((N:Int) % 256)=(n:Int) / 256 ^ j % 256:=by rw [d];simp
 rw [a,c];clear a d c;obtain ⟨A,f,g⟩:=h;refine ⟨A.setIfInBounds (m - (j+1)) (.int .u8 ((n:Int) / 256 ^ j % 256)),heap_setCell_same w b _ A _ _ f,?_⟩
 have i:((n:Int) / 256 ^ j % 256)=((UInt8.ofNat (n / 256 ^ j)).toNat:Int):=by
  rw [UInt8.toNat_ofNat',show ((n:Int) / 256 ^ j)=((n / 256 ^ j:Nat):Int) by simp]
  omega
 rw [Array.toList_setIfInBounds,g,i,oG]
 have e:List.replicate (m - j) (Value.int .u8 0)=List.replicate (m - (j+1)) (.int .u8 0)++[.int .u8 0]:=by
  rw [show m - j=(m - (j+1))+1 by omega,List.replicate_succ']
 rw [e,List.append_assoc,List.set_append_right _ _ (by simp)];simp [Lib.byteCells]
def Hw (b:Bool) (w:World) (e:Ending) (w':World):Prop:=e= .returned (.bool b)∧∃n,w'=w.drewN n
theorem Hw.mk {b:Bool} {w:World} {e:Ending} {a:World} (c:Bool) (f:e= .returned (.bool c)) (d:b=c) (n:Nat) (g:a=w.drewN n):Hw b w e a:=⟨by rw [f,d],n,g⟩
def rV (b:UInt8):Bool:=decide (b.toNat=0) || decide (b.toNat=10) || decide (b.toNat=13) || decide (126 < b.toNat)
def rX (x:Nat):Bool:=decide (x=0) || decide (x=10) || decide (x=13) || decide (126 < x)
theorem xp (n a b c d:Nat) (h:128≤a):126 < (Lib.decodeN n a b c d).1:=by
 unfold Lib.decodeN;rw [if_neg (by omega)]
 split
 ·split <;> simp only [] <;> omega
 ·split
  ·split <;> simp only [] <;> omega
  ·split
   ·split <;> simp only [] <;> omega
   ·simp
theorem AX (s:ByteArray) (i:Nat) (h:(s.get! i).toNat < 128):Utf8.decode s i=((s.get! i).toNat,1):=by
 rw [Lib.decode_at];unfold Lib.decodeN;rw [if_pos h]
theorem yV (s:ByteArray) (i:Nat) (h:128≤(s.get! i).toNat):rX (Utf8.decode s i).1=true:=by
 rw [Lib.decode_at];have:=xp (s.size - i) (s.get! i).toNat (s.get! (i+1)).toNat (s.get! (i+2)).toNat (s.get! (i+3)).toNat h;unfold rX;rw [decide_eq_true this,Bool.or_true]
theorem zh (l:List UInt8) (j:Nat) (h:j < l.length):(bs l).get! j=l[j]:=by
 show (bs l).data[j]! =_;have:j < (bs l).data.size:=by have:=aI l;exact (by show j < (bs l).size;omega)
 rw [getElem!_pos (bs l).data j this];simp [bs]
theorem CP (l:List UInt8):∀(f a:Nat),a≤l.length→l.length≤a+f→(0≤Lib.idxFuncFrom rX true (bs l) f a ↔ (l.drop a).any rV=true)
 | 0,a,h1,h2=>by
  have:a=l.length:=by omega
  subst this;simp [Lib.idxFuncFrom]
 | f+1,a,h1,h2=>by
  have i:=aI l;unfold Lib.idxFuncFrom
  by_cases h:a < l.length
  ·rw [if_pos (by omega)];have e:l.drop a=l[a]::l.drop (a+1):=List.drop_eq_getElem_cons h;have g:=zh l a h
   by_cases b:((bs l).get! a).toNat < 128
   ·rw [AX _ _ b,g];have c:rX l[a].toNat=rV l[a]:=rfl;simp only [];rw [e,List.any_cons,c]
    cases d:rV l[a] with
    | true=>simp
    | false=>
     rw [if_neg (by simp),Bool.false_or];exact CP l f (a+1) (by omega) (by omega)
   ·have:=yV (bs l) a (by omega);rw [if_pos this,e,List.any_cons]
    have d:rV l[a]=true:=by
     rw [g] at b;unfold rV;rw [decide_eq_true (show 126 < l[a].toNat by omega),Bool.or_true]
    rw [d,Bool.true_or];exact ⟨fun _=>rfl,fun _=>by omega⟩
  ·have:a=l.length:=by omega
   subst this;rw [if_neg (by omega)];simp
theorem DJ (x:Nat) (w:World) (j:x≤1114111):Calls Tryz.prog 138 #[.int .i32 (x:Int)] w fun e f=>e= .returned (.bool (rX x))∧Below w.heap.size w f:=by
 unfold rX
 by_cases a:x=0
 ·subst a;go_enter Tryz.func138,Tryz.ntmps138;go_wp2_with fail
  go_ret;exact ⟨rfl,Below.refl _ _⟩
 ·by_cases b:x=10
  ·subst b;go_enter Tryz.func138,Tryz.ntmps138;go_wp2_with fail
   go_ret;exact ⟨rfl,Below.refl _ _⟩
  ·by_cases c:x=13
   ·subst c;go_enter Tryz.func138,Tryz.ntmps138;go_wp2_with fail
    go_ret;exact ⟨rfl,Below.refl _ _⟩
   ·rw [decide_eq_false a,decide_eq_false b,decide_eq_false c];have g:((x:Int) == 0)=false:=by rw [beq_eq_false_iff_ne];omega
    have h:((x:Int) == 10)=false:=by rw [beq_eq_false_iff_ne];omega
    have i:((x:Int) == 13)=false:=by rw [beq_eq_false_iff_ne];omega
    have d:decide (126 < x)=decide ((126:Int) < (x:Int)):=by
     rw [Bool.eq_iff_iff,decide_eq_true_eq,decide_eq_true_eq];omega
    rw [d];clear a b c d;go_enter Tryz.func138,Tryz.ntmps138;go_wp2_with fail
    go_ret;exact ⟨rfl,Below.refl _ _⟩
open Go.Conc Go.RowKit
theorem wV {P:Program} {Q:Goroutine→World→Prop} {f:FuncId} {b:Array Value} {w:World} {R:Ending→World→Prop} {c:Frame} {g:List Frame} (h:Calls P f b w R) (n:∀a d,¬R (.panicked a) d) (m:∀d,¬R .outgrown d)
  (k:∀v d,R (.returned v) d→LoneTo P Q (G (c.finish v) g) d):LoneTo P Q (G (Frame.enter P f b .normal) (c::g)) w:=by
 obtain ⟨e,d,r,i,j,_,l⟩:=h (c::g)
 cases e with
 | returned v=>
  obtain ⟨g2,q,p,o⟩:=k v d i;exact ⟨g2,q,Steps.trans j (Steps.head (step_leave_returned l) p),o⟩
 | panicked a=>exact absurd i (n _ _)
 | outgrown=>exact absurd i (m _)
def od:Option Code→Code
 | some (.block _ (.loop c))=>c
 | _=> .skip
def gn (f:Func):Code:=od f.body
theorem EC (q:List UInt8→World→Prop) (sb i:Nat) (u:Bool) (V:Value) (W:List Frame) (R:World→Prop)
  (X:∀a l w,q a w→l.length≤1048576→a.length+l.length≤140737488355328→Calls Tryz.prog 96 #[V,.string (bs l)] w fun e j=>(∃v,e= .returned v)∧q (a++l) j∧∀o,w.heap[i]? =some o→j.heap[i]? =some o)
  (d:∀a w,q a w→w.cell? ⟨sb,3,none⟩=some (.chan (some i)))
  (p:∀a w M y s r,q a w→w.heap[i]? =some (.chan 3 M false s r u)→q a (w.setChan i 3 y false s (r+1) u)):
  ∀(g:List (List UInt8)) (a:List UInt8) (w:World) (s r:Nat) (u2 u3 u4 u5 u6 u7 u8 u9 u10 u11 u12 u13 u14 u15:Value),q a w→w.heap[i]? =some (.chan 3 (g.map fun l=>Value.string (bs l)).toArray false s r u)→(∀l∈g,l.length≤1048576)→a.length+g.flatten.length≤140737488355328→
   (∀j U T,q (a++g.flatten) j→j.heap[i]? =some (.chan 3 #[] false U T u)→R j)→
   LoneTo Tryz.prog (fun g' j=>∃e N,g'=G N W∧(e= .returned (.tuple #[])∧R j)∧N.fn=63∧N.leaving Tryz.prog j e)
    (G ((base 63).at ⟨#[.pointer (some ⟨sb,0,none⟩),V,u2,u3,u4,u5,u6,u7,u8,u9,u10,u11,u12,u13,u14,u15],[]⟩ [.code (gn Tryz.f63),.inLoop (gn Tryz.f63),.inBlock 0]) W) w:=by
 intro g
 induction g with
 | nil=>
  intro a w s r u2 u3 u4 u5 u6 u7 u8 u9 u10 u11 u12 u13 u14 u15 t b _ _ K;have Y:=d a w t;have F:=K w s r (by simpa using t) (by simpa using b);simp only [List.map_nil] at b;clear X d p K;refine LoneTo.goes (n:=30) ?_;simp only [gn,od,Tryz.f63]
  s_c stepG_block
  s_c stepG_seq
  s_reg
  s_op
  s_op
  s_op
  s_op
  s_c stepG_region_end
  s_c stepG_seq
  s_reg
  s_stop
  refine LoneTo.step (step_lone_select_default (c:=i) (z:= .string ⟨#[]⟩) (stepG_comm (cases:=#[rcase i (.string ⟨#[]⟩)]) (blocking:=false) (shape:= .select) (w':=w) rfl rfl (by decide) (by simp [go_sem,rcase,Act.eval,execOp])) b) ?_;rw [Frame.finish_at]
  walk_nrm
  refine LoneTo.goes (n:=20) ?_
  s_op
  s_op
  s_c stepG_region_end
  s_c stepG_block
  s_cond false
  s_c stepG_ret'
  s_stop
  exact LoneTo.done ⟨.returned (.tuple #[]),_,rfl,⟨rfl,F⟩,rfl,rfl,rfl,rfl,_,Tryz.func63,by simp [results,Tryz.f63,Frame.at]⟩
 | cons l g ih=>
  intro a w s r u2 u3 u4 u5 u6 u7 u8 u9 u10 u11 u12 u13 u14 u15 t b Z B K;have Y:=d a w t;have S:=Z l (List.mem_cons_self ..);have C:a.length+l.length≤140737488355328:=by rw [List.flatten_cons,List.length_append] at B;omega
  have D:(a++l).length+g.flatten.length≤140737488355328:=by rw [List.flatten_cons,List.length_append] at B;rw [List.length_append];omega
  have A:=p a w _ (g.map fun l=>Value.string (bs l)).toArray s r t b;have H:((((l::g).map fun l=>Value.string (bs l)).toArray).extract 1 (((l::g).map fun l=>Value.string (bs l)).toArray).size)=(g.map fun l=>Value.string (bs l)).toArray:=by simp [List.take_of_length_le]
  have I:((((l::g).map fun l=>Value.string (bs l)).toArray).getD 0 undef)= .string (bs l):=by simp
  have m:i < w.heap.size:=(Array.getElem?_eq_some_iff.1 b).1;refine LoneTo.goes (n:=30) ?_;simp only [gn,od,Tryz.f63]
  s_c stepG_block
  s_c stepG_seq
  s_reg
  s_op
  s_op
  s_op
  s_op
  s_c stepG_region_end
  s_c stepG_seq
  s_reg
  s_stop
  refine LoneTo.step (step_lone_select_recv_buf (c:=i) (z:= .string ⟨#[]⟩) (stepG_comm (cases:=#[rcase i (.string ⟨#[]⟩)]) (blocking:=false) (shape:= .select) (w':=w) rfl rfl (by decide) (by simp [go_sem,rcase,Act.eval,execOp])) b (by simp)) ?_;rw [H,I];rw [Frame.finish_at]
  walk_nrm
  have k:=heap_setChan w i 3 (g.map fun l=>Value.string (bs l)).toArray false s (r+1) u m;obtain ⟨L,J⟩:∃L,w.setChan i 3 (g.map fun l=>Value.string (bs l)).toArray false s (r+1) u=L:=⟨_,rfl⟩;rw [J] at A k ⊢;clear J Y b t H I m;refine LoneTo.goes (n:=30) ?_
  s_op
  s_op
  s_c stepG_region_end
  s_c stepG_block
  s_cond true
  s_c stepG_seq
  s_reg
  s_op
  s_op
  s_c stepG_region_end
  s_reg
  s_op
  s_op
  s_stop
  refine LoneTo.step (step_solo_go rfl (stepG_enter (f:=96) (args:=#[V,.string (bs l)]) (w':=L) rfl rfl (by decide) (by simp [go_sem,Act.eval,execOp]))) ?_;refine wV (X a l L A S C) (fun _ _ h=>by obtain ⟨⟨_,h⟩,_⟩:=h;cases h) (fun _ h=>by obtain ⟨⟨_,h⟩,_⟩:=h;cases h) fun v w2 O=>?_;obtain ⟨_,P,Q⟩:=O;have E:=Q _ k;rw [Frame.finish_at]
  walk_nrm
  refine LoneTo.goes (n:=30) ?_
  s_c stepG_region_end
  s_c stepG_inBlock
  s_c stepG_inBlock
  s_c stepG_inLoop
  s_stop
  exact ih (a++l) w2 s (r+1) _ _ _ _ _ _ _ _ _ _ _ _ _ _ P E (fun x hx=>Z x (List.mem_cons_of_mem _ hx)) D (fun j U T h1 O=>K j U T (by rw [List.flatten_cons,←List.append_assoc];exact h1) O)
theorem ya (b:List UInt8→World→Prop) (sb c s r:Nat) (j:Bool) (k:Value) (i:List (List UInt8)) (a:List UInt8) (w:World)
  (B:∀a l w,b a w→l.length≤1048576→a.length+l.length≤140737488355328→Calls Tryz.prog 96 #[k,.string (bs l)] w fun e f=>(∃v,e= .returned v)∧b (a++l) f∧∀o,w.heap[c]? =some o→f.heap[c]? =some o)
  (d:∀a w,b a w→w.cell? ⟨sb,3,none⟩=some (.chan (some c)))
  (h:∀a w m g s r,b a w→w.heap[c]? =some (.chan 3 m false s r j)→b a (w.setChan c 3 g false s (r+1) j))
  (A:b a w) (q:w.heap[c]? =some (.chan 3 (i.map fun l=>Value.string (bs l)).toArray false s r j)) (C:∀l∈i,l.length≤1048576) (p:a.length+i.flatten.length≤140737488355328):
  Calls Tryz.prog 63 #[.pointer (some ⟨sb,0,none⟩),k] w fun e f=>e= .returned (.tuple #[])∧∃u t,b (a++i.flatten) f∧f.heap[c]? =some (.chan 3 #[] false u t j):=by
 refine calls_of_loneTo fun x=>?_
 have e:Frame.enter Tryz.prog 63 #[.pointer (some ⟨sb,0,none⟩),k] .normal=(base 63).at ⟨#[.pointer (some ⟨sb,0,none⟩),k,undef,undef,undef,undef,undef,undef,undef,undef,undef,undef,undef,undef,undef,undef],[]⟩ [.code (.block 0 (.loop (gn Tryz.f63)))]:=by
  simp [Frame.enter,Frame.at,Tryz.func63,base,Tryz.f63,gn,od]
 rw [e];refine LoneTo.goes (n:=2) ?_
 s_c stepG_block
 s_c stepG_loop
 s_stop
 exact EC b sb c j k x _ B d h i a w s r _ _ _ _ _ _ _ _ _ _ _ _ _ _ A q C p (fun f u t y z=>⟨u,t,y,z⟩)
end Go.Proofs.YtofpegbpgkkgkaaGreatDoor
