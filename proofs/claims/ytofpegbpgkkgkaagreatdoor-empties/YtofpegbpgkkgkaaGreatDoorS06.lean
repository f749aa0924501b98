import Derived.Test.YtofpegbpgkkgkaaGreatDoorS04
import Derived.Test.YtofpegbpgkkgkaaGreatDoorS02
namespace Go.Proofs.YtofpegbpgkkgkaaGreatDoor
set_option maxHeartbeats 8000000
set_option maxRecDepth 1000000
open Go.RowKit
def dH (l:List UInt8):Bool:=(jb l).2 && ((jb l).1 == l)
def yW (l:List (List UInt8)) (k:Nat):Bool:=(List.range k).all fun j=> !(l.getD j [] == l.getD k [])
def oG (l:List (List UInt8)) (k:Nat):Bool:=dH (l.getD k []) && yW l k
def qp (n T:Nat) (m:aX):Bool:=decide (m.id=n+1) && decide (T≤m.time) && decide (m.time≤1000000000) && decide (1≤m.tos.length) && decide (m.tos.length≤10) && decide (m.body.length≤1000) && (m.frm.isEmpty || dH m.frm) && (List.range m.tos.length).all (oG m.tos)
theorem qG {n k:Nat} {q:Nat→Bool} (h:k < n) (b:q k=false):(List.range n).all q=false:=by
 cases a:(List.range n).all q with
 | false=>rfl
 | true=>
  have:=List.all_eq_true.1 a k (List.mem_range.2 h);rw [b] at this;cases this
theorem Gl {k:Nat} {q:Nat→Bool}:(List.range (k+1)).all q=((List.range k).all q && q k):=by
 rw [List.range_succ,List.all_append];simp
theorem tS (a b:List UInt8):((bs a).toList == (bs b).toList)=(a == b):=by
 rw [Lib.toList_data,Lib.toList_data,aI,aI]
def bI (l:List UInt8):Nat×List Nat:=(be (l.take 4),lg (be ((l.drop 4).take 1)) (l.drop 5))
def aa.mailOf (S:aa) (K:Nat):aX:=((S.items[K]?).map (·.m)).getD ⟨0,0,[],[],[]⟩
def aa.takes (S:aa) (l:List UInt8):Option aa:=
 match l with
 | []=>none
 | c::r=>
  if c=77 then
   if qp S.items.length S.time (iL r) && (cA (iL r) == l) then some ⟨S.items++[⟨iL r,List.replicate (iL r).tos.length false⟩],(iL r).time⟩ else none
  else if c=71 then
   if xZ S (bI r).1 (bI r).2 && (71::aM (bI r).1 (bI r).2 == l) then some (S.outs ((bI r).1 - 1) (bI r).2) else none
  else if c=70 then
   if xZ S (bI (r.drop 4)).1 (bI (r.drop 4)).2 && decide (S.time≤be (r.take 4)) && decide (be (r.take 4)≤1000000000) && (70::(az 4 (be (r.take 4))++aM (bI (r.drop 4)).1 (bI (r.drop 4)).2) == l) then
    some ((S.outs ((bI (r.drop 4)).1 - 1) (bI (r.drop 4)).2).failed (S.mailOf ((bI (r.drop 4)).1 - 1)) (bI (r.drop 4)).2 (be (r.take 4)))
   else none
  else none
theorem JA (S:aa) (r:List UInt8):S.takes (71::r)=if xZ S (bI r).1 (bI r).2 && (71::aM (bI r).1 (bI r).2 == 71::r) then some (S.outs ((bI r).1 - 1) (bI r).2) else none:=by
 unfold aa.takes;simp only;rw [if_neg (by decide),if_pos trivial]
theorem Jz (S:aa) (r:List UInt8):S.takes (70::r)=if xZ S (bI (r.drop 4)).1 (bI (r.drop 4)).2 && decide (S.time≤be (r.take 4)) && decide (be (r.take 4)≤1000000000) && (70::(az 4 (be (r.take 4))++aM (bI (r.drop 4)).1 (bI (r.drop 4)).2) == 70::r) then some ((S.outs ((bI (r.drop 4)).1 - 1) (bI (r.drop 4)).2).failed (S.mailOf ((bI (r.drop 4)).1 - 1)) (bI (r.drop 4)).2 (be (r.take 4))) else none:=by
 unfold aa.takes;simp only;rw [if_neg (by decide),if_neg (by decide),if_pos trivial]
theorem vF {w:World} {a n:Nat} {e:TypeId} {v:Value} {f:List Value} (h:w.ownsRow a e 1 v n f):bg w v n 1 f:=by
 refine ⟨h.1,?_⟩
 rcases h.2 with ⟨b,l⟩ | ⟨g,i,k,b,_,m,c,_,_,d⟩
 ·exact .inl ⟨l,none,0,b⟩
 ·refine .inr ⟨g,0,i,b,c,fun j o=>?_⟩;rw [Nat.zero_add,Lib.cell_of_heap m,←Array.getElem?_toList,←List.getElem?_take_of_lt o,d]
theorem qM (a b:List UInt8):((bs a).toList == b)=(a == b):=by rw [Lib.toList_data,aI]
def iW (out:List Bool) (k:Nat):List Nat:=(List.range k).filter fun i=> !(out.getD i false)
theorem uF (a:List Bool) (k:Nat):(iW a k).length≤k:=by
 unfold iW;have:=List.length_filter_le (fun i=> !(a.getD i false)) (List.range k);simpa using this
def dY (l:List UInt8):List UInt8:=if (jb l).2 then (jb l).1 else []
theorem oL (l:List UInt8) (m:Int) (w:World) (q:l.length≤140737488355328) (n:w.cell? ⟨0,0,none⟩=some (.int .i64 m)):
  Calls Tryz.prog 210 #[.string (bs l)] w fun e t=>e= .returned (.tuple #[.string (bs (dY l)),.bool (jb l).2])∧Below w.heap.size w t:=by
 have a:=vz (bs l) m w (by rw [aG];exact q) n;go_enter Tryz.func210,Tryz.ntmps210;go_wp2_with fail
 refine a.mono ?_;rintro e u ⟨x,y,f,rfl,h,k⟩;obtain ⟨c,rfl⟩:∃c,x=bs c:=⟨_,(Eb x).symm⟩;obtain ⟨d,rfl⟩:∃d,y=bs d:=⟨_,(Eb y).symm⟩;rw [aI,aI,aI] at h;have b:=xv l;rw [h] at b;obtain ⟨o,p⟩:=b;have r:(bs c).size≤20:=by rw [aG];exact o
 have s:(bs d).size≤40:=by rw [aG];exact p
 have g:Hid (jb l=(c++64::d,f)):=Lib.hid (by unfold jb;rw [h]);have j:=Lib.hid k;clear h k o p a n
 cases f with
 | false=>
  have i:Hid (dY l=[]):=Lib.hid (by unfold dY;rw [g.out];rfl);go_wp2_with fail
  go_ret2
  exact ⟨by rw [i.out,g.out];rfl,j.out⟩
 | true=>
  have i:Hid (dY l=c++64::d):=Lib.hid (by unfold dY;rw [g.out];rfl);go_wp2_with fail
  go_ret2
  refine ⟨?_,j.out⟩;rw [show (⟨#[64]⟩:ByteArray)=bs [64] from rfl,cE,cE,i.out,g.out];simp
theorem um (l:List UInt8) (m:Int) (w:World) (j:l.length≤140737488355328) (i:w.cell? ⟨0,0,none⟩=some (.int .i64 m)):
  Calls Tryz.prog 218 #[.string (bs l)] w fun e k=>e= .returned (.bool (dH l))∧Below w.heap.size w k:=by
 have a:=oL l m w j i
 have b:Hid (dH l=((jb l).2 && (dY l == l))):=Lib.hid (by
  unfold dH dY
  cases (jb l).2 <;> rfl)
 obtain ⟨K,d⟩:∃K,dY l=K:=⟨_,rfl⟩;obtain ⟨f,g⟩:∃f,(jb l).2=f:=⟨_,rfl⟩;rw [d,g] at a b;clear d g;go_enter Tryz.func218,Tryz.ntmps218;go_wp2_with fail
 refine a.mono ?_;rintro e n ⟨rfl,h⟩;have c:=Lib.hid h;clear h a i
 cases f with
 | false=>
  go_wp2_with fail
  go_ret;exact ⟨cG (by rw [b.out];rfl),c.out⟩
 | true=>
  go_wp2_with fail
  go_ret;refine ⟨cG ?_,c.out⟩;rw [tS,b.out];simp
def lh (l:List Nat) (i:Nat):Bool:=decide (i=0) || decide (l.getD (i - 1) 0 < l.getD i 0)
def bF (l:List Nat):Bool:=(List.range l.length).all (lh l)
theorem zh (v:Value) (l:List Nat) (w:World) (h:bg w v l.length 1 (aZ l)) (O:l.length≤255):
  Calls Tryz.prog 221 #[v] w fun e r=>e= .returned (.bool (bF l))∧∃n,r=w.drewN n:=by
 obtain ⟨a,G,rfl,_⟩:=h.one;have s:=Lib.hid h;have I:(l.length:Int)≤255:=by omega
 clear h;go_enter Tryz.func221,Tryz.ntmps221;go_wp2_with fail
 go_loopw [3] (fun i r=>∃j q:Nat,(j+1≤l.length∨j=0)∧i= .int .i64 ((j:Int)+1)∧Hid ((List.range (j+1)).all (lh l)=true)∧r=w.drewN q) (fun i _=>l.length - (intOf i).toNat)
 case atStart=>exact ⟨0,0,.inr rfl,rfl,Lib.hid (by simp [lh]),rfl⟩
 case round=>
  obtain ⟨j,q,g,rfl,o,rfl⟩:=hrel
  by_cases c:j+1 < l.length
  ·have D:(j:Int)+1 < (l.length:Int):=by omega
   have d:j < l.length:=by omega
   have C:(j:Int) < (l.length:Int):=by omega
   have J:IntKind.i64.wrap ((j:Int)+1 - 1)=(j:Int):=by rw [IntKind.wrap_i64];omega
   have K:IntKind.i64.wrap (j:Int)=(j:Int):=by rw [IntKind.wrap_i64];omega
   obtain ⟨b,m,rfl,_,B⟩:=s.out.elem j d;obtain ⟨L,E,e,_,f⟩:=s.out.elem (j+1) c;injection e with e;injection e with e1 e2;subst e1 e2;have M:w.cell? ⟨b,m+j,none⟩=some (.int .i64 (l[j]:Int)):=by rw [B];simp [aZ,d]
   have N:w.cell? ⟨b,m+(j+1),none⟩=some (.int .i64 (l[j+1]:Int)):=by rw [f];simp [aZ,c]
   have u:=Lib.hid (show l.getD j 0=l[j] by rw [List.getD_eq_getElem?_getD,List.getElem?_eq_getElem d];rfl);have z:=Lib.hid (show l.getD (j+1) 0=l[j+1] by rw [List.getD_eq_getElem?_getD,List.getElem?_eq_getElem c];rfl)
   generalize l[j]=x at *
   generalize l[j+1]=y at *
   clear B f g
   cases t:decide (y≤x) with
   | true=>
    have k:y≤x:=by simpa using t
    have p:Hid (bF l=false):=Lib.hid (qG c (by unfold lh;rw [z.out,show j+1 - 1=j by omega,u.out,decide_eq_false (show ¬x < y by omega)];rfl));go_wp2_with fail
    go_quiet (fail)
    go_wp2_with fail
    go_ret;exact ⟨by rw [p.out];rfl,_,by simp;rfl⟩
   | false=>
    have k:x < y:=by simpa using t
    have F:Hid ((List.range (j+1+1)).all (lh l)=true):=Lib.hid (by rw [Gl,o.out];unfold lh;rw [z.out,show j+1 - 1=j by omega,u.out,decide_eq_true k];simp);go_wp2_with fail
    go_quiet (fail)
    go_wp2_with fail
    exact ⟨⟨j+1,q+nq,.inl (by omega),congrArg (Value.int .i64) (by omega),F,rfl⟩,by simp [intOf];omega⟩
  ·have p:Hid (bF l=true):=Lib.hid (by
    rcases g with g | g
    ·have:l.length=j+1:=by omega
     unfold bF;rw [this];exact o.out
    ·subst g
     rcases Nat.eq_zero_or_pos l.length with A | A
     ·unfold bF;rw [A];rfl
     ·have:l.length=1:=by omega
      unfold bF;rw [this];exact o.out)
   have H:(l.length:Int)≤(j:Int)+1:=by omega
   go_wp2_with fail
   go_ret;exact ⟨by rw [p.out];rfl,q,rfl⟩
def stay (tos:List (List UInt8)) (out:List Bool):List (Nat×List UInt8):=(iW out out.length).map fun i=>(i,tos.getD i [])
theorem Br (o:List Bool) (l:List Nat) (i:Nat) (h:i < o.length):(jV o l).getD i false=(o.getD i false || l.contains i):=by
 induction l generalizing o with
 | nil=>simp [jV]
 | cons x l ih=>
  show (jV (o.set x true) l).getD i false=_;rw [ih _ (by rw [List.length_set];exact h),List.getD_eq_getElem?_getD,List.getD_eq_getElem?_getD,List.getElem?_set]
  by_cases a:x=i
  ·subst a;simp [h]
  ·have:(i == x)=false:=by simpa using fun e=>a e.symm
   rw [if_neg a,List.contains_cons,this,Bool.false_or]
theorem wR (o:List Bool) (l:List Nat):iW (jV o l) (jV o l).length=(iW o o.length).filter fun i=> !(l.contains i):=by
 unfold iW;rw [List.filter_filter,uS];apply List.filter_congr;intro i a;rw [Br o l i (List.mem_range.1 a)]
 cases o.getD i false <;> cases l.contains i <;> rfl
theorem rV (a:List (List UInt8)) (o:List Bool) (l:List Nat):stay a (jV o l)=(stay a o).filter fun r=> !(l.contains r.1):=by
 unfold stay;rw [wR,List.filter_map];rfl
theorem lW (o:List Bool) (i:Nat):i∈iW o o.length ↔ i < o.length∧o.getD i false=false:=by
 unfold iW;rw [List.mem_filter,List.mem_range]
 cases o.getD i false <;> simp
theorem sJ {l:List Nat} (h:bF l=true):l.Pairwise (·< ·):=by
 rw [bF,List.all_eq_true] at h
 have a:∀i,i+1 < l.length→l.getD i 0 < l.getD (i+1) 0:=fun i b=>by
  have:=h (i+1) (List.mem_range.2 b);simpa [lh] using this
 have c:∀d i,i+d+1 < l.length→l.getD i 0 < l.getD (i+d+1) 0:=fun d=>by
  induction d with
  | zero=>intro i b;exact a i b
  | succ d ih=>
   intro i b;have k:=ih i (by omega);have m:=a (i+d+1) (by omega);have e:i+(d+1)+1=i+d+1+1:=by omega
   rw [e];omega
 rw [List.pairwise_iff_getElem];intro i j b f g;obtain ⟨d,rfl⟩:∃d,j=i+d+1:=⟨j - i - 1,by omega⟩
 have:=c d i f
 rwa [List.getD_eq_getElem?_getD,List.getD_eq_getElem?_getD,List.getElem?_eq_getElem b,List.getElem?_eq_getElem f] at this
theorem qm:∀{a b:List Nat},a.Pairwise (·< ·)→b.Pairwise (·< ·)→(∀i,i∈a ↔ i∈b)→a=b
 | [],[],_,_,_=>rfl
 | [],y::b,_,_,h=>by have:=(h y).2 (by simp);cases this
 | x::a,[],_,_,h=>by have:=(h x).1 (by simp);cases this
 | x::a,y::b,ha,hb,h=>by
  rw [List.pairwise_cons] at ha hb
  have e:x=y:=by
   have d:=(h x).1 (by simp);have f:=(h y).2 (by simp)
   rcases List.mem_cons.1 d with e | d
   ·exact e
   ·rcases List.mem_cons.1 f with e | f
    ·exact e.symm
    ·have:=hb.1 x d;have:=ha.1 y f;omega
  subst e;rw [qm ha.2 hb.2];intro i;have g:=h i;simp only [List.mem_cons] at g
  constructor
  ·intro c;have:=ha.1 i c
   rcases g.1 (.inr c) with e | e
   ·omega
   ·exact e
  ·intro c;have:=hb.1 i c
   rcases g.2 (.inr c) with e | e
   ·omega
   ·exact e
theorem mz (o:List Bool) (k:Nat):(iW o k).Pairwise (·< ·):=(List.pairwise_lt_range).filter _
theorem DL (a:List (List UInt8)) (o:List Bool) (l:List Nat) (c:bF l=true) (b:∀x∈l,x < o.length∧o.getD x false=false):((stay a o).filter fun r=>l.contains r.1).map (·.2)=l.map fun i=>a.getD i []:=by
 unfold stay;rw [List.filter_map,List.map_map]
 have e:(iW o o.length).filter ((fun r:Nat×List UInt8=>l.contains r.1) ∘ fun i=>(i,a.getD i []))=l:=by
  apply qm ((mz o _).filter _) (sJ c);intro i;rw [List.mem_filter,lW];simp only [Function.comp,List.contains_iff_mem];exact ⟨fun h=>h.2,fun h=>⟨b i h,h⟩⟩
 rw [e];rfl
theorem FC (o:List Bool) (l:List Nat):(List.range l.length).all (zq o l)=(bF l && l.all fun x=>decide (x < o.length) && !(o.getD x false)):=by
 have b:∀i,zq o l i=(lh l i && (decide (l.getD i 0 < o.length) && !(o.getD (l.getD i 0) false))):=fun i=>by
  unfold zq lh;rw [Bool.and_comm]
 have c:(List.range l.length).all (fun i=>decide (l.getD i 0 < o.length) && !(o.getD (l.getD i 0) false))=l.all fun x=>decide (x < o.length) && !(o.getD x false):=by
  rw [Bool.eq_iff_iff,List.all_eq_true,List.all_eq_true]
  constructor
  ·intro h x d;obtain ⟨i,a,rfl⟩:=List.getElem_of_mem d;have:=h i (List.mem_range.2 a)
   rwa [List.getD_eq_getElem?_getD,List.getElem?_eq_getElem a] at this
  ·intro h i a;have a:=List.mem_range.1 a;have:=h l[i] (List.getElem_mem a);rw [List.getD_eq_getElem?_getD,List.getElem?_eq_getElem a];exact this
 rw [←c,bF,Bool.eq_iff_iff];simp only [Bool.and_eq_true,List.all_eq_true,b];exact ⟨fun h=>⟨fun i a=>(h i a).1,fun i a=>(h i a).2⟩,fun h i a=>⟨h.1 i a,h.2 i a⟩⟩
theorem BN (a:List (List UInt8)) (o:List Bool) (x:Nat):(stay a o).any (fun r=>decide (r.1=x))=(decide (x < o.length) && !(o.getD x false)):=by
 rw [Bool.eq_iff_iff,List.any_eq_true];unfold stay;simp only [List.mem_map,Bool.and_eq_true,decide_eq_true_eq,Bool.not_eq_true']
 constructor
 ·rintro ⟨r,⟨i,b,rfl⟩,rfl⟩;exact (lW o i).1 b
 ·intro h;exact ⟨(x,a.getD x []),⟨x,(lW o x).2 h,rfl⟩,rfl⟩
def iH (tos:List (List UInt8)):Bool:=decide (1≤tos.length) && decide (tos.length≤10) && (List.range tos.length).all (oG tos)
def dr (m:aX):Bool:=decide (m.time≤1000000000) && (m.frm.isEmpty || dH m.frm) && iH m.tos && decide (m.body.length≤1000)
def dq (r:List UInt8):Option (Nat×List Nat):=(rI r).bind fun x=>if decide (1≤x.2.length) && bF x.2 then some x else none
def bP (l:List UInt8):Option aX:=
 match l with
 | []=>none
 | c::r=>if c=77 then (nk r).bind fun m=>if dr m then some m else none else none
def dh (l:List UInt8):Option (Nat×List Nat):=
 match l with
 | []=>none
 | c::r=>if c=71 then dq r else none
def bS (l:List UInt8):Option (Nat×Nat×List Nat):=
 match l with
 | []=>none
 | c::r=>if c=70 then (fZ 4 r).bind fun a=>(dq a.2).bind fun x=>if a.1≤1000000000 then some (a.1,x.1,x.2) else none else none
def aa.outOf (S:aa) (K:Nat):List Bool:=(S.items.map (·.out)).getD K []
def bt (S:aa) (id:Nat) (ps:List Nat):Bool:=decide (1≤id) && decide (id≤S.items.length) && ps.all fun x=>decide (x < (S.outOf (id - 1)).length) && !((S.outOf (id - 1)).getD x false)
def aa.takesM (S:aa) (m:aX):Option aa:=if decide (m.id=S.items.length+1) && decide (S.time≤m.time) then some ⟨S.items++[⟨m,List.replicate m.tos.length false⟩],m.time⟩ else none
def aa.takesG (S:aa) (id:Nat) (ps:List Nat):Option aa:=if bt S id ps then some (S.outs (id - 1) ps) else none
def aa.takesF (S:aa) (T id:Nat) (ps:List Nat):Option aa:=if bt S id ps && decide (S.time≤T) then some ((S.outs (id - 1) ps).failed (S.mailOf (id - 1)) ps T) else none
theorem Bs (S:aa) (g:Nat) (f:List Nat):xZ S g f=(decide (1≤f.length) && bF f && bt S g f):=by
 unfold xZ bt aa.outOf;rw [FC,Bool.eq_iff_iff];simp only [Bool.and_eq_true]
 constructor
 ·rintro ⟨⟨⟨a,b⟩,c⟩,d,e⟩;exact ⟨⟨c,d⟩,⟨a,b⟩,e⟩
 ·rintro ⟨⟨c,d⟩,⟨a,b⟩,e⟩;exact ⟨⟨⟨a,b⟩,c⟩,d,e⟩
theorem Ds (n T:Nat) (m:aX):qp n T m=(dr m && (decide (m.id=n+1) && decide (T≤m.time))):=by
 unfold qp dr iH;rw [Bool.eq_iff_iff];simp only [Bool.and_eq_true]
 constructor
 ·rintro ⟨⟨⟨⟨⟨⟨⟨a,b⟩,c⟩,d⟩,e⟩,f⟩,g⟩,h⟩;exact ⟨⟨⟨⟨c,g⟩,⟨d,e⟩,h⟩,f⟩,a,b⟩
 ·rintro ⟨⟨⟨⟨c,g⟩,⟨d,e⟩,h⟩,f⟩,a,b⟩;exact ⟨⟨⟨⟨⟨⟨⟨a,b⟩,c⟩,d⟩,e⟩,f⟩,g⟩,h⟩
theorem DS (S:aa) (r:List UInt8):S.takes (77::r)=(bP (77::r)).bind S.takesM:=by
 have a:S.takes (77::r)=if qp S.items.length S.time (iL r) && (cA (iL r) == 77::r) then some ⟨S.items++[⟨iL r,List.replicate (iL r).tos.length false⟩],(iL r).time⟩ else none:=by
  unfold aa.takes;simp only;rw [if_pos trivial]
 have b:bP (77::r)=(nk r).bind fun m=>if dr m then some m else none:=by
  unfold bP;simp only;rw [if_pos trivial]
 rw [a,b,Fp,Ds]
 by_cases h:cA (iL r)=77::r
 ·rw [if_pos h,sb,h]
  cases c:dr (iL r) with
  | false=>simp
  | true=>
   simp only [Bool.true_and,beq_self_eq_true,Bool.and_true,if_true,sb];rfl
 ·rw [if_neg h];have:(cA (iL r) == 77::r)=false:=by simpa using h
  rw [this,Bool.and_false];rfl
theorem vT (S:aa) (r:List UInt8):S.takes (71::r)=(dh (71::r)).bind fun x=>S.takesG x.1 x.2:=by
 have a:dh (71::r)=dq r:=by
  unfold dh;simp only;rw [if_pos trivial]
 rw [JA,a,dq,xT,Bs];show (if decide (1≤(bI r).2.length) && bF (bI r).2 && bt S (bI r).1 (bI r).2 && (71::aM (bI r).1 (bI r).2 == 71::r) then some (S.outs ((bI r).1 - 1) (bI r).2) else none)=((if aM (bI r).1 (bI r).2=r then some (bI r) else none).bind fun x=>if decide (1≤x.2.length) && bF x.2 then some x else none).bind fun x=>S.takesG x.1 x.2
 by_cases h:aM (bI r).1 (bI r).2=r
 ·rw [if_pos h,sb,h]
  cases b:(decide (1≤(bI r).2.length) && bF (bI r).2) with
  | false=>simp
  | true=>
   simp only [Bool.true_and,beq_self_eq_true,Bool.and_true,if_true,sb];rfl
 ·rw [if_neg h];have:(71::aM (bI r).1 (bI r).2 == 71::r)=false:=by simpa using h
  rw [this,Bool.and_false];rfl
theorem qB (S:aa) (r:List UInt8):S.takes (70::r)=(bS (70::r)).bind fun x=>S.takesF x.1 x.2.1 x.2.2:=by
 have i:bS (70::r)=(fZ 4 r).bind fun a=>(dq a.2).bind fun x=>if a.1≤1000000000 then some (a.1,x.1,x.2) else none:=by
  unfold bS;simp only;rw [if_pos trivial]
 rw [Jz,i]
 by_cases f:4≤r.length
 ·have c:fZ 4 r=some (be (r.take 4),r.drop 4):=by unfold fZ;rw [if_pos f]
  have k:az 4 (be (r.take 4))=r.take 4:=by
   have:=tP (r.take 4)
   rwa [show (r.take 4).length=4 by rw [List.length_take];omega] at this
  rw [c,sb,k];obtain ⟨T,j⟩:∃T,be (r.take 4)=T:=⟨_,rfl⟩;obtain ⟨q,d⟩:∃q,r.drop 4=q:=⟨_,rfl⟩;have g:r=r.take 4++q:=by rw [←d,List.take_append_drop]
  rw [j,d,dq,xT,Bs]
  show (if decide (1≤(bI q).2.length) && bF (bI q).2 && bt S (bI q).1 (bI q).2 && decide (S.time≤T) && decide (T≤1000000000) && (70::(r.take 4++aM (bI q).1 (bI q).2) == 70::r) then some ((S.outs ((bI q).1 - 1) (bI q).2).failed (S.mailOf ((bI q).1 - 1)) (bI q).2 T) else none)=
   (((if aM (bI q).1 (bI q).2=q then some (bI q) else none).bind fun x=>if decide (1≤x.2.length) && bF x.2 then some x else none).bind fun x=>if T≤1000000000 then some (T,x.1,x.2) else none).bind fun x=>S.takesF x.1 x.2.1 x.2.2
  by_cases h:aM (bI q).1 (bI q).2=q
  ·have l:(70::(r.take 4++aM (bI q).1 (bI q).2) == 70::r)=true:=by rw [h,←g];simp
   rw [if_pos h,sb,l]
   cases m:(decide (1≤(bI q).2.length) && bF (bI q).2) with
   | false=>simp
   | true=>
    simp only [Bool.true_and,Bool.and_true,if_true,sb]
    by_cases b:T≤1000000000
    ·rw [if_pos b,sb,decide_eq_true b,Bool.and_true];rfl
    ·rw [if_neg b,decide_eq_false b,Bool.and_false];rfl
  ·rw [if_neg h]
   have:(70::(r.take 4++aM (bI q).1 (bI q).2) == 70::r)=false:=by
    rw [beq_eq_false_iff_ne];intro e;injection e with _ e;exact h (List.append_cancel_left (e.trans g))
   rw [this,Bool.and_false];rfl
 ·have c:fZ 4 r=none:=by unfold fZ;rw [if_neg f]
  rw [c]
  have:(70::(az 4 (be (r.take 4))++aM (bI (r.drop 4)).1 (bI (r.drop 4)).2) == 70::r)=false:=by
   rw [beq_eq_false_iff_ne];intro e;injection e with _ e;have:=congrArg List.length e;rw [List.length_append,bf] at this;omega
  rw [this,Bool.and_false];rfl
theorem mj (S:aa) (l:List UInt8):S.takes l=
  match bP l with
  | some m=>S.takesM m
  | none=>match dh l with
   | some x=>S.takesG x.1 x.2
   | none=>match bS l with
    | some x=>S.takesF x.1 x.2.1 x.2.2
    | none=>none:=by
 cases l with
 | nil=>rfl
 | cons c r=>
  by_cases a:c=77
  ·subst a;rw [DS]
   cases e:bP (77::r) with
   | some m=>rfl
   | none=>rfl
  ·have f:bP (c::r)=none:=by unfold bP;simp only;rw [if_neg a]
   rw [f]
   by_cases b:c=71
   ·subst b;rw [vT]
    cases e:dh (71::r) with
    | some m=>rfl
    | none=>rfl
   ·have g:dh (c::r)=none:=by unfold dh;simp only;rw [if_neg b]
    simp only [g]
    by_cases d:c=70
    ·subst d;rw [qB]
     cases e:bS (70::r) with
     | some m=>rfl
     | none=>rfl
    ·have h:bS (c::r)=none:=by unfold bS;simp only;rw [if_neg d]
     simp only [h];unfold aa.takes;simp only;rw [if_neg a,if_neg b,if_neg d]
theorem eh (l:List (List UInt8)) (k:Nat) (h:k < l.length):(aB l)[k]? =some (.string (bs l[k])):=by simp [aB,h]
theorem qi {l:List (List UInt8)} {t:List UInt8} {k:Nat} (b:k < l.length) (h:t ∉ l.take k) (c:¬t=l[k]):t ∉ l.take (k+1):=by
 rw [List.take_succ_eq_append_getElem b,List.mem_append,List.mem_singleton];rintro (a | a)
 ·exact h a
 ·exact c a
theorem zf (l:List (List UInt8)) (t:List UInt8) (v:Value) (w:World) (h:bg w v l.length 1 (aB l)) (z:l.length≤255):
  Calls Tryz.prog 237 #[v,.string (bs t)] w fun e x=>∃r:Int,e= .returned (.int .i64 r)∧(-1≤r∧r≤255)∧(0≤r ↔ t∈l)∧w=x:=by
 obtain ⟨a,q,rfl,n⟩:=h.one;have p:=Lib.hid n;clear n h;go_enter Tryz.func237,Tryz.ntmps237;go_wp2_with fail
 go_loop [8] (fun i=>∃k:Nat,k≤l.length∧i= .int .i64 k∧Hid (t ∉ l.take k)) (fun i=>l.length - (intOf i).toNat)
 case atStart=>exact ⟨0,Nat.zero_le _,rfl,Lib.hid (by simp)⟩
 case round=>
  obtain ⟨k,y,rfl,m⟩:=hrel
  by_cases c:k < l.length
  ·have o:(k:Int) < (l.length:Int):=by omega
   obtain ⟨b,u,rfl,_,d⟩:=p.out k c;rw [eh l k c] at d
   by_cases f:t=l[k]
   ·have s:((bs t).toList == (bs l[k]).toList)=true:=by rw [tS];simpa using f
    have g:Hid (t∈l):=Lib.hid (by rw [f];exact List.getElem_mem c);clear f;go_wp2_with fail
    go_ret;exact ⟨_,rfl,by omega,⟨fun _=>g.out,fun _=>by omega⟩,rfl⟩
   ·have s:((bs t).toList == (bs l[k]).toList)=false:=by rw [tS];simpa using f
    have g:=Lib.hid (qi c m.out f);clear f;go_wp2_with fail
    exact ⟨⟨k+1,by omega,by go_num,g⟩,by simp [intOf];omega⟩
  ·have j:k=l.length:=by omega
   subst j
   have g:Hid (t ∉ l):=Lib.hid (by
    have:=m.out
    rwa [List.take_length] at this)
   go_wp2_with fail
   go_ret;exact ⟨_,rfl,by omega,⟨fun h=>by omega,fun h=>absurd h g.out⟩,rfl⟩
theorem mw (l:List (List UInt8)) (t:List UInt8) (v:Value) (w:World) (h:bg w v l.length 1 (aB l)) (g:l.length≤255):
  Calls Tryz.prog 201 #[v,.string (bs t)] w fun e i=>e= .returned (.bool (l.contains t))∧w=i:=by
 have c:=zf l t v w h g;obtain ⟨a,f,rfl,_⟩:=h.one;clear h;go_enter Tryz.func201,Tryz.ntmps201;go_wp2_with fail
 refine c.mono ?_;rintro e k ⟨r,rfl,j,b,rfl⟩;have d:Hid (decide (0≤r)=l.contains t):=Lib.hid (by rw [Bool.eq_iff_iff,decide_eq_true_iff,List.contains_iff_mem];exact b);clear b c;go_wp2_with fail
 go_ret;exact ⟨cG d.out,rfl⟩
def fH.now (x:fH):aX:=⟨x.m.id,x.m.time,x.m.frm,(iW x.out x.out.length).map fun i=>x.m.tos.getD i [],x.m.body⟩
def gA (l:List fH):List aX:=(l.map fH.now).filter fun m=> !m.tos.isEmpty
def fJ (l:List (aX×Value)):List Value:=l.flatMap fun x=>(aY x.1 x.2).toList
theorem qa (l:List (aX×Value)) (x:aX×Value):fJ (l++[x])=fJ l++(aY x.1 x.2).toList:=by
 simp [fJ]
def nL (w:World) (v:Value) (ms:List aX):Prop:=
 ∃l:List (aX×Value),l.map (·.1)=ms∧bg w v l.length 5 (fJ l)∧∀x∈l,bg w x.2 x.1.tos.length 1 (aB x.1.tos)
def lE (base:Nat) (w:World) (v:Value) (l:List (aX×Value)):Prop:=
 w.ownsRow base 45 5 v l.length (fJ l)∧∀x∈l,w.ownsRow base 9 1 x.2 x.1.tos.length (aB x.1.tos)
theorem xL:(Tryz.prog.info? 45).map (fun i=>(i.zero,i.size,i.bytes))=some (some (.agg #[.int .i64 0,.int .i64 0,.string ⟨#[]⟩,.slice none 0 0,.string ⟨#[]⟩]),5,72):=by kernel_rfl
theorem aF {w:World} {a n f:Nat} {e:TypeId} {v:Value} {i:List Value} (h:w.ownsRow a e f v n i):bg w v n f i:=by
 refine ⟨h.1,?_⟩
 rcases h.2 with ⟨b,m⟩ | ⟨g,k,l,b,_,o,c,_,_,d⟩
 ·exact .inl ⟨m,none,0,b⟩
 ·refine .inr ⟨g,0,k,b,c,fun j p=>?_⟩;rw [Nat.zero_add,Lib.cell_of_heap o,←Array.getElem?_toList,←List.getElem?_take_of_lt p,d]
theorem lE.at {a:Nat} {w:World} {v:Value} {l:List (aX×Value)} (h:lE a w v l):nL w v (l.map (·.1)):=
 ⟨l,rfl,aF h.1,fun x b=>aF (h.2 x b)⟩
theorem lE.touch {a:Nat} {w d:World} {v:Value} {l:List (aX×Value)} {b:List TypeId} (h:lE a w v l) (c:cJ b w d) (e:45 ∉ b) (f:9 ∉ b):lE a d v l:=
 ⟨dG c e h.1,fun x g=>dG c f (h.2 x g)⟩
theorem FG {z:Nat} {y c b:World} {v w vt:Value} {rows:List (aX×Value)} {m:aX} {o:Obj} (E:∀x∈rows,c.ownsRow z 9 1 x.2 x.1.tos.length (aB x.1.tos)) (r:c.ownsRow z 45 5 v rows.length (fJ rows)) (B:c.ownsRow z 9 1 vt m.tos.length (aB m.tos)) (A:Below z y c) (H:z≤c.heap.size)
  (k:b.ownsRow z 45 5 w (rows.length+1) (fJ rows++(aY m vt).toList)) (a:(c.alloc o).grownBy b v.ownBlock):lE z b w (rows++[(m,vt)])∧Below z y b:=by
 have i:∀(u:Value) (n:Nat) (q:List Value),c.ownsRow z 9 1 u n q→b.ownsRow z 9 1 u n q:=fun u n q h=>by
  refine (h.alloc o).kept a ?_
  rcases h.2 with ⟨e,_⟩ | ⟨g,C,D,e,_,F,_⟩
  ·subst e;exact .inl rfl
  ·refine .inr fun d=>?_
   rcases r.2 with ⟨l,_⟩ | ⟨I,s,t,l,_,p,_⟩
   ·rw [l,e] at d;cases d
   ·rw [l,e] at d;injection d with d;exact DQ F p (by decide) d
 refine ⟨⟨?_,fun x f=>?_⟩,?_⟩
 ·rw [List.length_append,qa];exact k
 ·rcases List.mem_append.1 f with f | f
  ·exact i _ _ _ (E x f)
  ·simp only [List.mem_singleton] at f;subst f;exact i _ _ _ B
 ·exact (A.alloc H o).grown a (by simp;omega) (fun j G=>(r.lt j G).1)
def dL (w:World) (q time:Nat) (frm:List UInt8) (v:Value) (body:List UInt8) (x:Int×Int):Prop:=w.heap[q]? =some (.cells #[.int .i64 time,.string (bs frm),v,.string (bs body),.int .i64 x.1,.int .i64 x.2] 158 (0,0))
def aR (l:List (Nat×List UInt8)):List Value:=l.flatMap fun x=>[.int .i64 x.1,.string (bs x.2)]
theorem lR:(Tryz.prog.info? 162).map (fun i=>(i.zero,i.size,i.bytes))=some (some (.agg #[.int .i64 0,.string ⟨#[]⟩]),2,24):=by kernel_rfl
theorem nH (a:List (List UInt8)):stay a (List.replicate a.length false)=(List.range a.length).map fun i=>(i,a.getD i []):=by
 unfold stay iW;rw [List.length_replicate]
 congr 1
 rw [List.filter_eq_self];intro i b;have:=List.mem_range.1 b;simp [List.getD_eq_getElem?_getD,this]
theorem oE (l:List (Nat×List UInt8)) (x:Nat×List UInt8):aR (l++[x])=aR l++[.int .i64 x.1,.string (bs x.2)]:=by simp [aR]
theorem kc (l:List (Nat×List UInt8)):(aR l).length=l.length * 2:=by
 induction l with
 | nil=>rfl
 | cons x l ih=>show ([_,_]++aR l).length=_;rw [List.length_append,ih];simp;omega
def mT (tos:List (List UInt8)) (k:Nat):List (Nat×List UInt8):=(List.range k).map fun i=>(i,tos.getD i [])
theorem AE (a:List (List UInt8)) (k:Nat):mT a (k+1)=mT a k++[(k,a.getD k [])]:=by simp [mT,List.range_succ]
theorem CG (a:List (List UInt8)) (k:Nat):(mT a k).length=k:=by simp [mT]
theorem IM {D:Array Value} {k n:Nat} {b:List Value} {x y:Value} (f:D.size=n * 2) (g:k < n) (e:b.length=k * 2) (h:D.toList.take (k * 2)=b):((D.setIfInBounds (k * 2) x).setIfInBounds (k * 2+1) y).toList.take ((k+1) * 2)=b++[x,y]:=by
 apply List.ext_getElem?;intro j;rw [List.getElem?_take];have d:∀i,D.toList[i]? =D[i]? :=fun i=>Array.getElem?_toList
 rcases Nat.lt_or_ge j (k * 2) with c | c
 ·rw [if_pos (by omega),List.getElem?_append_left (by omega),Array.getElem?_toList,Array.getElem?_setIfInBounds_ne (by omega),Array.getElem?_setIfInBounds_ne (by omega),←h,List.getElem?_take,if_pos c,d]
 ·rw [List.getElem?_append_right (by omega),e]
  rcases Nat.lt_or_ge j (k * 2+2) with a | a
  ·rw [if_pos (by omega),Array.getElem?_toList];obtain rfl | rfl:j=k * 2∨j=k * 2+1:=by omega
   ·rw [Array.getElem?_setIfInBounds_ne (by omega),Array.getElem?_setIfInBounds];simp;omega
   ·rw [Array.getElem?_setIfInBounds];rw [if_pos rfl];simp;omega
  ·rw [if_neg (by omega),List.getElem?_eq_none (by simp;omega)]
theorem rN (j:aX) (v:Value) (w:World) (h:bg w v j.tos.length 1 (aB j.tos)) (hz:dQ j):
  Calls Tryz.prog 220 #[.agg (aY j v)] w fun e z=>∃q g,e= .returned (.pointer (some ⟨q,0,none⟩))∧dL z q j.time j.frm (.slice (some ⟨g,0,none⟩) j.tos.length j.tos.length) j.body (j.time,0)∧w.heap.size≤q∧z.ownsRow w.heap.size 162 2 (.slice (some ⟨g,0,none⟩) j.tos.length j.tos.length) j.tos.length (aR (stay j.tos (List.replicate j.tos.length false)))∧Below w.heap.size w z:=by
 obtain ⟨E,f,l,c,d⟩:=j;obtain ⟨z1,z2,z3,z4,V,z6⟩:=hz;simp only at h z1 z2 z3 z4 V z6;obtain ⟨a,n,rfl,Z⟩:=h.one;simp only [aY];have HC:=Lib.hid Z;have T:=fun z=>Dc (P:=Tryz.prog) Tryz.underlying102 lR c.length (by omega) (by omega) z;obtain ⟨C,M⟩:∃C,madeCells (Value.agg #[.int .i64 0,.string ⟨#[]⟩]).cells (c.length * 2)=C:=⟨_,rfl⟩;have N:C.size=c.length * 2:=by rw [←M];simp [madeCells]
 rw [M] at T;obtain ⟨s,J⟩:∃s,w.heap.size=s:=⟨_,rfl⟩;obtain ⟨A,o⟩:∃A:World,(w.alloc (.cells #[.int .i64 E,.int .i64 f,.string (bs l),.slice a c.length n,.string (bs d)] 45)).alloc (.cells C 162)=A:=⟨_,rfl⟩;have H:Below s w (w.alloc (.cells #[.int .i64 E,.int .i64 f,.string (bs l),.slice a c.length n,.string (bs d)] 45)):=(Below.refl _ _).alloc (by omega) _;have B0:Hid (Below s w A):=Lib.hid (by rw [←o];exact H.alloc (by simp;omega) _)
 have X0:Hid (gu A s E f l (.slice a c.length n) d):=Lib.hid (by
  unfold gu;rw [←o,←J,((Below.refl (w.alloc (.cells #[.int .i64 E,.int .i64 f,.string (bs l),.slice a c.length n,.string (bs d)] 45)).heap.size _).alloc (Nat.le_refl _) _).block w.heap.size (by simp)]
  exact heap_alloc_new w _)
 have G0:Hid (A.heap[s+1]? =some (.cells C 162 (0,0))):=Lib.hid (by
  rw [←o,←J];have:=heap_alloc_new (w.alloc (.cells #[.int .i64 E,.int .i64 f,.string (bs l),.slice a c.length n,.string (bs d)] 45)) (.cells C 162)
  simpa using this)
 have Z0:Hid (A.heap.size=s+2):=Lib.hid (by rw [←o,←J];simp);have K:=Lib.hid o;have p:=Lib.hid J;have a1:=Lib.hid V;clear h Z V H o M;go_enter Tryz.func220,Tryz.ntmps220;go_wp2_with fail
 rw [K.out];go_loopw [13] (fun i z=>∃(k:Nat) (D:Array Value),k≤c.length∧i= .int .i64 k∧D.size=c.length * 2∧Hid (D.toList.take (k * 2)=aR (mT c k))∧Hid (z.heap[s+1]? =some (.cells D 162 (0,0)))∧Hid (aL (s+1) A z)) (fun i _=>c.length - (intOf i).toNat)
 case atStart=>exact ⟨0,C,Nat.zero_le _,rfl,N,Lib.hid rfl,G0,Lib.hid (aL.refl _ _)⟩
 case round=>
  obtain ⟨k,D,hk,rfl,O,X,B,I⟩:=hrel;have W:Hid (Below s w wr):=Lib.hid (B0.out.trans (I.out.below (by omega)))
  by_cases r:k < c.length
  ·have a0:(k:Int) < (c.length:Int):=by omega
   obtain ⟨b,U,rfl,Q,m⟩:=HC.out k r;rw [eh c k r] at m;have R:wr.cell? ⟨b,U+k,none⟩=some (.string (bs c[k])):=(W.out.cell (by show b < s;rw [←p.out];exact Q)).trans m;have F:Hid (mT c (k+1)=mT c k++[(k,c[k])]):=Lib.hid (by rw [AE,List.getD_eq_getElem?_getD,List.getElem?_eq_getElem r];rfl);obtain ⟨t,Y⟩:∃t,c[k]=t:=⟨_,rfl⟩;rw [Y] at R F;have x0:∃u,wr.cell? ⟨s+1,k * 2,none⟩=some u:=by rw [Lib.cell_of_heap B.out];exact ⟨_,Array.getElem?_eq_getElem (by omega)⟩
   have x1:∃u,wr.cell? ⟨s+1,k * 2+1,none⟩=some u:=by rw [Lib.cell_of_heap B.out];exact ⟨_,Array.getElem?_eq_getElem (by omega)⟩
   obtain ⟨u0,x0⟩:=x0;obtain ⟨u1,x1⟩:=x1;have y0:=Lib.frozen_of_heap B.out (k * 2);have y1:=Lib.frozen_of_heap B.out (k * 2+1);have HN:=Lib.hid (IM (x:= .int .i64 k) (y:= .string (bs t)) O r (by rw [kc,CG]) X.out);clear Y m;go_wp2_with fail
   have h1:=heap_setCell_same wr (s+1) (k * 2) _ _ (.int .i64 k) B.out;have h2:=heap_setCell_same _ (s+1) (k * 2+1) _ _ (.string (bs t)) h1;exact ⟨⟨k+1,_,by omega,by go_num,by simp [O],Lib.hid (by rw [HN.out,F.out,oE]),Lib.hid h2,Lib.hid ((I.out.setCell _).setCell _)⟩,by simp [intOf];omega⟩
  ·have S:k=c.length:=by omega
   subst S;have L:Hid (gu wr s E f l (.slice a c.length n) d):=Lib.hid (X0.out.same I.out (by omega));have k1:wr.cell? ⟨s,1,none⟩=some (.int .i64 f):=(L.out.cell 1).1;have k2:wr.cell? ⟨s,2,none⟩=some (.string (bs l)):=(L.out.cell 2).1;have k4:wr.cell? ⟨s,4,none⟩=some (.string (bs d)):=(L.out.cell 4).1;have z9:wr.heap.size=s+2:=I.out.1.trans Z0.out;have G:=Lib.hid z9;go_wp2_with fail
   go_ret;refine ⟨s+2,s+1,?_,?_,by rw [p.out];omega,?_,?_⟩
   ·rfl
   ·unfold dL;rw [←G.out];exact heap_alloc_new wr _
   ·rw [p.out];refine World.ownsRow.alloc ?_ _;refine ⟨by rw [kc,nH];simp,.inr ⟨s+1,c.length,D,rfl,by omega,B.out,Nat.le_refl _,by unfold maxLen;omega,O,?_⟩⟩
    rw [X.out,nH];rfl
   ·rw [p.out];exact W.out.alloc (by rw [G.out];omega) _
def fY (l:List (List UInt8)):List UInt8:=Jq++l.flatMap fun t=>[13,10]++t
theorem Bm (l:List (List UInt8)) (k:Nat) (h:k < l.length):fY (l.take (k+1))=fY (l.take k)++([13,10]++l[k]):=by
 unfold fY;rw [List.take_succ_eq_append_getElem h,List.flatMap_append];simp
theorem Bl (a:List (List UInt8)) (b:List Nat):fY (b.map fun i=>a.getD i [])=Ai a b:=by
 unfold fY Ai;rw [List.flatMap_map];rfl
theorem nB (l:List (List UInt8)) (v:Value) (w:World) (h:bg w v l.length 1 (aB l)) (D:l.length≤255) (q:∀t∈l,t.length≤255):
  Calls Tryz.prog 170 #[v] w fun e z=>e= .returned (.string (bs (fY l)))∧w=z:=by
 obtain ⟨a,u,rfl,o⟩:=h.one;have r:=Lib.hid o;have s:=Lib.hid q;clear h o q;go_enter Tryz.func170,Tryz.ntmps170;go_wp2_with fail
 go_loop [3,8] (fun b i=>∃(k:Nat) (B:List UInt8),k≤l.length∧i= .int .i64 k∧b= .string (bs B)∧B.length≤14+257 * k∧Hid (B=fY (l.take k))) (fun _ i=>l.length - (intOf i).toNat)
 case atStart=>exact ⟨0,Jq,Nat.zero_le _,rfl,rfl,by decide,Lib.hid (by simp [fY])⟩
 case round=>
  obtain ⟨k,B,C,rfl,rfl,A,f⟩:=hrel;have F:=aG B
  by_cases d:k < l.length
  ·have p:(k:Int) < (l.length:Int):=by omega
   obtain ⟨b,y,rfl,x,c⟩:=r.out k d;rw [eh l k d] at c;have j:=s.out l[k] (List.getElem_mem d);have m:=Lib.hid (Bm l k d);obtain ⟨t,n⟩:∃t,l[k]=t:=⟨_,rfl⟩;rw [n] at c j m;have G:=aG t;have E:((⟨#[13,10]⟩:ByteArray)++bs t).size≤257:=by rw [show (⟨#[13,10]⟩:ByteArray)=bs [13,10] from rfl,cE,aG];simp;omega
   clear n;go_wp2_with fail
   refine ⟨⟨k+1,B++([13,10]++t),by omega,by go_num,?_,by simp;omega,Lib.hid (by rw [m.out,←f.out])⟩,by simp [intOf];omega⟩
   rw [show (⟨#[13,10]⟩:ByteArray)=bs [13,10] from rfl,cE,cE]
  ·have g:k=l.length:=by omega
   subst g;rw [List.take_length] at f;go_wp2_with fail
   go_ret;exact ⟨by rw [←f.out];rfl,rfl⟩
theorem lY (l:List Nat) (k:Nat) (h:k < l.length):(aZ l)[k]? =some (.int .i64 (l[k]:Int)):=by simp [aZ,h]
theorem wX {l:List Nat} {t:Nat} {k:Nat} (b:k < l.length) (h:t ∉ l.take k) (c:¬t=l[k]):t ∉ l.take (k+1):=by
 rw [List.take_succ_eq_append_getElem b,List.mem_append,List.mem_singleton];rintro (a | a)
 ·exact h a
 ·exact c a
theorem ze (l:List Nat) (t:Nat) (v:Value) (w:World) (h:bg w v l.length 1 (aZ l)) (z:l.length≤255):
  Calls Tryz.prog 283 #[v,.int .i64 (t:Int)] w fun e x=>∃r:Int,e= .returned (.int .i64 r)∧(-1≤r∧r≤255)∧(0≤r ↔ t∈l)∧w=x:=by
 obtain ⟨a,q,rfl,n⟩:=h.one;have p:=Lib.hid n;clear n h;go_enter Tryz.func283,Tryz.ntmps283;go_wp2_with fail
 go_loop [8] (fun i=>∃k:Nat,k≤l.length∧i= .int .i64 k∧Hid (t ∉ l.take k)) (fun i=>l.length - (intOf i).toNat)
 case atStart=>exact ⟨0,Nat.zero_le _,rfl,Lib.hid (by simp)⟩
 case round=>
  obtain ⟨k,y,rfl,m⟩:=hrel
  by_cases c:k < l.length
  ·have o:(k:Int) < (l.length:Int):=by omega
   obtain ⟨b,u,rfl,_,d⟩:=p.out k c;rw [lY l k c] at d
   by_cases g:t=l[k]
   ·have s:((t:Int) == (l[k]:Int))=true:=by rw [g];simp
    have f:Hid (t∈l):=Lib.hid (by rw [g];exact List.getElem_mem c);clear g;go_wp2_with fail
    go_ret;exact ⟨_,rfl,by omega,⟨fun _=>f.out,fun _=>by omega⟩,rfl⟩
   ·have s:((t:Int) == (l[k]:Int))=false:=by rw [beq_eq_false_iff_ne];omega
    have f:=Lib.hid (wX c m.out g);clear g;go_wp2_with fail
    exact ⟨⟨k+1,by omega,by go_num,f⟩,by simp [intOf];omega⟩
  ·have j:k=l.length:=by omega
   subst j
   have f:Hid (t ∉ l):=Lib.hid (by
    have:=m.out
    rwa [List.take_length] at this)
   go_wp2_with fail
   go_ret;exact ⟨_,rfl,by omega,⟨fun h=>by omega,fun h=>absurd h f.out⟩,rfl⟩
theorem sv (l:List Nat) (t:Nat) (v:Value) (w:World) (h:bg w v l.length 1 (aZ l)) (g:l.length≤255):
  Calls Tryz.prog 259 #[v,.int .i64 (t:Int)] w fun e i=>e= .returned (.bool (l.contains t))∧w=i:=by
 have c:=ze l t v w h g;obtain ⟨a,f,rfl,_⟩:=h.one;clear h;go_enter Tryz.func259,Tryz.ntmps259;go_wp2_with fail
 refine c.mono ?_;rintro e k ⟨r,rfl,j,b,rfl⟩;have d:Hid (decide (0≤r)=l.contains t):=Lib.hid (by rw [Bool.eq_iff_iff,decide_eq_true_iff,List.contains_iff_mem];exact b);clear b c;go_wp2_with fail
 go_ret;exact ⟨cG d.out,rfl⟩
theorem dP (l:List (Nat×List UInt8)) (k:Nat) (h:k < l.length):(aR l)[k * 2]? =some (.int .i64 (l[k].1:Int))∧(aR l)[k * 2+1]? =some (.string (bs l[k].2)):=by
 induction l generalizing k with
 | nil=>simp at h
 | cons x l ih=>
  show ([Value.int .i64 (x.1:Int),.string (bs x.2)]++aR l)[k * 2]? =_∧([Value.int .i64 (x.1:Int),.string (bs x.2)]++aR l)[k * 2+1]? =_
  cases k with
  | zero=>exact ⟨rfl,rfl⟩
  | succ k=>
   have:=ih k (by simpa using h);rw [List.getElem?_append_right (by simp only [List.length_cons,List.length_nil];omega),List.getElem?_append_right (by simp only [List.length_cons,List.length_nil];omega)];simp only [List.length_cons,List.length_nil];rw [show (k+1) * 2 - (0+1+1)=k * 2 by omega,show (k+1) * 2+1 - (0+1+1)=k * 2+1 by omega]
   exact this
def dx (l:List (Nat×List UInt8)) (ps:List Nat):List (List UInt8):=(l.filter fun r=>ps.contains r.1).map (·.2)
def bM (l:List (Nat×List UInt8)) (ps:List Nat):List (Nat×List UInt8):=l.filter fun r=> !(ps.contains r.1)
theorem FE (l:List (Nat×List UInt8)) (a:List Nat) (k:Nat) (h:k < l.length):(a.contains l[k].1=true→dx (l.take (k+1)) a=dx (l.take k) a++[l[k].2]∧bM (l.take (k+1)) a=bM (l.take k) a)∧(a.contains l[k].1=false→dx (l.take (k+1)) a=dx (l.take k) a∧bM (l.take (k+1)) a=bM (l.take k) a++[l[k]]):=by
 unfold dx bM;rw [List.take_succ_eq_append_getElem h,List.filter_append,List.filter_append]
 constructor
 ·intro e;simp only [List.filter_cons,e,List.filter_nil,Bool.not_true,if_true,Bool.false_eq_true,if_false,List.append_nil,List.map_append];exact ⟨rfl,trivial⟩
 ·intro e;simp only [List.filter_cons,e,List.filter_nil,Bool.not_false,if_true,Bool.false_eq_true,if_false,List.append_nil];exact ⟨trivial,trivial⟩
theorem mV (l:List (Nat×List UInt8)) (a:List Nat):(dx l a).length≤l.length:=by unfold dx;rw [List.length_map];exact List.length_filter_le _ _
theorem Iz (l:List (Nat×List UInt8)) (a:List Nat):(bM l a).length≤l.length:=List.length_filter_le _ _
theorem Eg {i s f:World} {a n m B d:Nat} {e j:TypeId} {x y:Value} {C t:List Value} (A:i.ownsRow a e B x n C) (r:i.ownsRow a j d y m t) (o:j≠e) (w:Below i.heap.size i s) (b:s.grownBy f x.ownBlock):f.ownsRow a j d y m t:=by
 refine (dG (cJ.below (ts:=[]) w) (by simp) r).kept b ?_
 rcases r.2 with ⟨h,_⟩ | ⟨g,u,v,h,_,z,_⟩
 ·subst h;exact .inl rfl
 ·refine .inr fun c=>?_
  rcases A.2 with ⟨k,_⟩ | ⟨D,p,q,k,_,l,_⟩
  ·rw [k,h] at c;cases c
  ·rw [k,h] at c;injection c with c;exact DQ z l o c
theorem oA (C q y:Nat) (J p:List UInt8) (v vp:Value) (l:List (Nat×List UInt8)) (d:List Nat) (x:Int×Int) (w:World) (h:dL w q y J v p x) (_:C≤q) (hv:w.ownsRow C 162 2 v l.length (aR l)) (hp:bg w vp d.length 1 (aZ d)) (hl:l.length≤255) (b5:d.length≤255):
  Calls Tryz.prog 223 #[.pointer (some ⟨q,0,none⟩),vp] w fun e D=>∃vn vs,e= .returned vn∧D.ownsRow w.heap.size 9 1 vn (dx l d).length (aB (dx l d))∧dL D q y J vs p x∧D.ownsRow w.heap.size 162 2 vs (bM l d).length (aR (bM l d))∧sc q w D:=by
 obtain ⟨a,I,rfl,_⟩:=hp.one;have HP:=Lib.hid hp;have HV:=Lib.hid hv;have HH:=Lib.hid h;have k2:w.cell? ⟨q,2,none⟩=some v:=by rw [Lib.cell_of_heap h];rfl
 obtain ⟨av,cv,rfl⟩:∃a c,v= .slice a l.length c:=by
  rcases hv.2 with ⟨e,h0⟩ | ⟨g,I,W,e,_⟩
  ·exact ⟨_,_,by rw [h0];exact e⟩
  ·exact ⟨_,_,e⟩
 obtain ⟨s,hs⟩:∃s,w.heap.size=s:=⟨_,rfl⟩;have f:=Lib.hid hs;obtain ⟨is,b2,a5,a6,a7⟩:=info_parts nR;obtain ⟨ir,b1,a2,a3,a4⟩:=info_parts lR;have N:q < s:=by rw [←hs];exact sZ h
 clear h hv hp hs;go_enter Tryz.func223,Tryz.ntmps223;go_wp2_with fail
 go_loopw [5,6,14] (fun vn vs i D=>∃k:Nat,k≤l.length∧i= .int .i64 k∧Hid (D.ownsRow s 9 1 vn (dx (l.take k) d).length (aB (dx (l.take k) d)))∧Hid (D.ownsRow s 162 2 vs (bM (l.take k) d).length (aR (bM (l.take k) d)))∧Hid (Below s w D)) (fun _ _ i _=>l.length - (intOf i).toNat)
 case atStart=>exact ⟨0,Nat.zero_le _,rfl,Lib.hid (World.ownsRow_nil _ _ _ _),Lib.hid (World.ownsRow_nil _ _ _ _),Lib.hid (by rw [←f.out];exact Below.refl _ _)⟩
 case round=>
  obtain ⟨k,O,rfl,S,n,z⟩:=hrel
  by_cases M:k < l.length
  ·have b8:(k:Int) < (l.length:Int):=by omega
   have m:=Lib.hid (FE l d k M);have Y:=mV (l.take k) d;have Z:=Iz (l.take k) d;rw [List.length_take] at Y Z;obtain ⟨G,eG⟩:∃G,dx (l.take k) d=G:=⟨_,rfl⟩;obtain ⟨R,eR⟩:∃R,bM (l.take k) d=R:=⟨_,rfl⟩;rw [eG] at S Y m;rw [eR] at n Z m
   obtain ⟨g,rfl,c0,c1⟩:∃g,av=some ⟨g,0,none⟩∧w.cell? ⟨g,k * 2,none⟩=some (.int .i64 (l[k].1:Int))∧w.cell? ⟨g,k * 2+1,none⟩=some (.string (bs l[k].2)):=by
    rcases HV.out.2 with ⟨_,h0⟩ | ⟨g,cp,W,e,_,hg,_,_,_,a0⟩
    ·omega
    ·injection e with e1 _ _;refine ⟨g,e1,?_,?_⟩
     ·rw [Lib.cell_of_heap hg,←Array.getElem?_toList,←List.getElem?_take_of_lt (show k * 2 < l.length * 2 by omega),a0];exact (dP l k M).1
     ·rw [Lib.cell_of_heap hg,←Array.getElem?_toList,←List.getElem?_take_of_lt (show k * 2+1 < l.length * 2 by omega),a0];exact (dP l k M).2
   have d0:wr.cell? ⟨g,k * 2,none⟩=some (.int .i64 (l[k].1:Int)):=(z.out.cell (by show g < s;rw [←f.out];exact aC c0)).trans c0;have d1:wr.cell? ⟨g,k * 2+1,none⟩=some (.string (bs l[k].2)):=(z.out.cell (by show g < s;rw [←f.out];exact aC c1)).trans c1;obtain ⟨x,ex⟩:∃x,l[k]=x:=⟨_,rfl⟩;rw [ex] at d0 d1 m;obtain ⟨P,T⟩:=x;simp only at d0 d1;have b7:s≤wr.heap.size:=by have:=z.out.size;have:=f.out;omega
   obtain ⟨o,B⟩:∃o:World,wr.alloc (.cells #[.int .i64 (P:Int),.string (bs T)] 162)=o:=⟨_,rfl⟩;have r:Below wr.heap.size wr o:=by rw [←B];exact (Below.refl _ _).alloc (Nat.le_refl _) _
   have L:o.heap[wr.heap.size]? =some (.cells #[.int .i64 (P:Int),.string (bs T)] 162 (0,0)):=by rw [←B];exact heap_alloc_new wr _
   have p0:o.cell? ⟨wr.heap.size,0,none⟩=some (.int .i64 (P:Int)):=by rw [Lib.cell_of_heap L];rfl
   have p1:o.cell? ⟨wr.heap.size,1,none⟩=some (.string (bs T)):=by rw [Lib.cell_of_heap L];rfl
   have BW:Hid (Below s w o):=Lib.hid (z.out.trans (r.mono b7));have A:=Lib.hid (sv d P (.slice a d.length I) o (HP.out.below (by rw [f.out];exact BW.out)) b5);have F:=dG (cJ.below (ts:=[]) r) (by simp) S.out;have H:=dG (cJ.below (ts:=[]) r) (by simp) n.out;have a1:s≤o.heap.size:=by have:=r.size;omega
   have U:=Lib.hid B;have c6:=Lib.hid F;have c7:=Lib.hid H;clear B r L ex c0 c1 eG eR S n z
   cases Q:d.contains P with
   | true=>
    obtain ⟨q1,q2⟩:=m.out.1 Q;have Q1:=Lib.hid q1;have Q2:=Lib.hid q2;rw [Q] at A;clear q1 q2 m Q;go_wp2_with fail
    rw [U.out];refine A.out.mono ?_;rintro e w2 ⟨rfl,rfl⟩
    go_wp2_with (first
     | (at_builtin;refine wpList_append_own _ rfl _ _ 25 rfl s 9 is (.string ⟨#[]⟩) 1 16 Tryz.underlying25 b2 a5 a6 a7 rfl (by decide) _ _ _ rfl (F.alloc _) ⟨o.heap.size,0,none⟩ 1 1 [.string (bs T)] rfl rfl ?c1 ?c2 ?c3 ?c4 ?c5 ?_)
     | fail)
    case c1=>exact World.news_of_block (cs:=#[.string (bs T)]) (t:=9) (fr:=(0,0)) (heap_alloc_new o _)
    case c2=>intro u hu;simp at hu;subst hu;rfl
    case c3=>unfold maxLen;omega
    case c4=>omega
    case c5=>simp;omega
    ·intro v' w4 j b _;have b0:=Lib.hid (Eg F H (by decide) ((Below.refl _ _).alloc (Nat.le_refl _) _) b);have K:=Lib.hid ((BW.out.alloc a1 _).grown b (by simp;omega) (fun k O=>(F.lt k O).1));have E:=Lib.hid j;clear j b F H;go_wp2_with fail
     exact ⟨⟨k+1,by omega,by go_num,Lib.hid (by rw [Q1.out];simpa [aB] using E.out),Lib.hid (by rw [Q2.out];exact b0.out),K⟩,by simp [intOf];omega⟩
   | false=>
    obtain ⟨q1,q2⟩:=m.out.2 Q;have Q1:=Lib.hid q1;have Q2:=Lib.hid q2;rw [Q] at A;clear q1 q2 m Q;go_wp2_with fail
    rw [U.out];refine A.out.mono ?_;rintro e w2 ⟨rfl,rfl⟩
    go_wp2_with (first
     | (at_builtin;refine wpList_append_own _ rfl _ _ 102 rfl s 162 ir _ 2 24 Tryz.underlying102 b1 a2 a3 a4 rfl (by decide) _ _ _ rfl (H.alloc _) ⟨o.heap.size,0,none⟩ 1 1 [.int .i64 (P:Int),.string (bs T)] rfl rfl ?c1 ?c2 ?c3 ?c4 ?c5 ?_)
     | fail)
    case c1=>exact World.news_of_block (cs:=#[.int .i64 (P:Int),.string (bs T)]) (t:=162) (fr:=(0,0)) (heap_alloc_new o _)
    case c2=>intro u hu;simp at hu;rcases hu with rfl | rfl <;> rfl
    case c3=>unfold maxLen;omega
    case c4=>omega
    case c5=>simp;omega
    ·intro v' w4 j b _;have a9:=Lib.hid (Eg H F (by decide) ((Below.refl _ _).alloc (Nat.le_refl _) _) b);have K:=Lib.hid ((BW.out.alloc a1 _).grown b (by simp;omega) (fun k O=>(H.lt k O).1));have E:=Lib.hid j;clear j b F H;go_wp2_with fail
     exact ⟨⟨k+1,by omega,by go_num,Lib.hid (by rw [Q1.out];exact a9.out),Lib.hid (by rw [Q2.out,oE,List.length_append];exact E.out),K⟩,by simp [intOf];omega⟩
  ·have b3:k=l.length:=by omega
   subst b3;rw [List.take_length] at S n
   have hP:dL wr q y J (.slice av l.length cv) p x:=by
    have:=HH.out;unfold dL at this ⊢;rw [z.out.block q N];exact this
   have m2:∃u,wr.cell? ⟨q,2,none⟩=some u:=⟨_,by rw [Lib.cell_of_heap hP];rfl⟩
   obtain ⟨u2,m2⟩:=m2;have f2:=Lib.frozen_of_heap hP 2;have a8:=Lib.hid hP
   obtain ⟨gs,V,e6⟩:∃a c,u6= .slice a (bM l d).length c:=by
    rcases n.out.2 with ⟨e,h0⟩ | ⟨g,I,W,e,_⟩
    ·exact ⟨_,_,by rw [h0];exact e⟩
    ·exact ⟨_,_,e⟩
   subst e6;clear hP;go_wp2_with fail
   go_ret;have b6:=heap_setCell_same wr q 2 _ _ (.slice gs (bM l d).length V) a8.out;have X:aL q wr (wr.setCell ⟨q,2,none⟩ (.slice gs (bM l d).length V)):=(aL.refl _ _).setCell _;refine ⟨u5,.slice gs (bM l d).length V,rfl,?_,b6,?_,?_⟩
   ·rw [f.out];exact dJ S.out X N
   ·rw [f.out];exact dJ n.out X N
   ·exact ⟨by rw [X.1];exact z.out.size,fun k O b4=>(X.2 k b4).trans (z.out.block k (by rw [←f.out];exact O)),(dU.of_below z.out).trans X.3⟩
def aa.stayOf (S:aa) (i:Nat):List (Nat×List UInt8):=stay (S.mailOf i).tos (S.outOf i)
def aa.live (S:aa):List Nat:=(List.range S.items.length).filter fun i=> !(S.stayOf i).isEmpty
def aa.plus (S:aa) (m:aX):aa:=⟨S.items++[⟨m,List.replicate m.tos.length false⟩],m.time⟩
theorem cd {S:aa} {i:Nat} (h:i < S.items.length):S.mailOf i=S.items[i].m:=by
 unfold aa.mailOf;rw [List.getElem?_eq_getElem h];rfl
theorem Ig {S:aa} {i:Nat} (h:i < S.items.length):S.outOf i=S.items[i].out:=by
 unfold aa.outOf;rw [List.getD_eq_getElem?_getD,List.getElem?_map,List.getElem?_eq_getElem h];rfl
theorem gT {S:aa} {i:Nat} (h:i < S.items.length):S.stayOf i=stay S.items[i].m.tos S.items[i].out:=by
 unfold aa.stayOf;rw [cd h,Ig h]
theorem rb {S:aa} {i:Nat} (h:S.items.length≤i):S.stayOf i=[]:=by
 unfold aa.stayOf aa.outOf;rw [List.getD_eq_getElem?_getD,List.getElem?_eq_none (by rw [List.length_map];exact h)];rfl
theorem jT {S:aa} {i:Nat}:i∈S.live ↔ i < S.items.length∧S.stayOf i≠[]:=by
 unfold aa.live;rw [List.mem_filter,List.mem_range];simp
theorem gJ (S:aa):S.live.Nodup:=List.Pairwise.filter _ List.nodup_range
theorem bq {S:aa} {i:Nat} (h:i∈S.live):i < S.items.length:=(jT.1 h).1
theorem zo {S:aa} {i:Nat} (h:S.stayOf i≠[]):i∈S.live:=by
 refine jT.2 ⟨?_,h⟩
 rcases Nat.lt_or_ge i S.items.length with a | a
 ·exact a
 ·exact absurd (rb a) h
theorem dv (S:aa) (m:aX):(S.plus m).items.length=S.items.length+1:=by simp [aa.plus]
theorem je {S:aa} {m:aX} {i:Nat} (h:i < S.items.length):(S.plus m).mailOf i=S.mailOf i:=by
 rw [cd h,cd (by rw [dv];omega)];simp only [aa.plus];rw [List.getElem_append_left h]
theorem jU {S:aa} {m:aX} {i:Nat} (h:i < S.items.length):(S.plus m).stayOf i=S.stayOf i:=by
 rw [gT h,gT (by rw [dv];omega)];simp only [aa.plus];rw [List.getElem_append_left h]
theorem dN (S:aa) (m:aX):(S.plus m).mailOf S.items.length=m:=by
 rw [cd (by rw [dv];omega)];simp [aa.plus]
theorem mB (S:aa) (m:aX):(S.plus m).stayOf S.items.length=stay m.tos (List.replicate m.tos.length false):=by
 rw [gT (by rw [dv];omega)];simp [aa.plus]
theorem BM {m:aX} (h:1≤m.tos.length):stay m.tos (List.replicate m.tos.length false)≠[]:=by
 rw [nH];intro e;have:=congrArg List.length e;simp only [List.length_map,List.length_range,List.length_nil] at this;omega
theorem lz {S:aa} {m:aX} (h:1≤m.tos.length):(S.plus m).live=S.live++[S.items.length]:=by
 unfold aa.live;rw [dv,List.range_succ,List.filter_append]
 congr 1
 ·apply List.filter_congr;intro i a;rw [jU (List.mem_range.1 a)]
 ·rw [List.filter_cons,mB,if_pos]
  ·rfl
  ·have:=BM h;simpa using this
theorem bL (S:aa) (K:Nat) (a:List Nat):(S.outs K a).items.length=S.items.length:=by simp [aa.outs]
theorem ez (S:aa) (K:Nat) (a:List Nat) (i:Nat):(S.outs K a).mailOf i=S.mailOf i:=by
 unfold aa.mailOf aa.outs;rw [List.getElem?_modify]
 by_cases h:K=i
 ·subst h
  cases S.items[K]? <;> simp
 ·simp [h]
theorem il {S:aa} {K i:Nat} {a:List Nat} (h:i≠K):(S.outs K a).stayOf i=S.stayOf i:=by
 unfold aa.stayOf;rw [ez]
 congr 1
 unfold aa.outOf aa.outs;rw [List.getD_eq_getElem?_getD,List.getD_eq_getElem?_getD,List.getElem?_map,List.getElem?_map,List.getElem?_modify];simp [Ne.symm h]
theorem jc {S:aa} {K:Nat} {a:List Nat} (h:K < S.items.length):(S.outs K a).stayOf K=bM (S.stayOf K) a:=by
 rw [gT (by rw [bL];exact h),gT h];unfold bM;rw [←rV]
 have b:(S.outs K a).items[K]'(by rw [bL];exact h)=⟨S.items[K].m,jV S.items[K].out a⟩:=by
  simp [aa.outs]
 rw [b]
theorem jz {S:aa} {K:Nat} {a:List Nat} (h:K∈S.live) (b:bM (S.stayOf K) a≠[]):(S.outs K a).live=S.live:=by
 unfold aa.live;rw [bL];apply List.filter_congr;intro i c
 by_cases e:i=K
 ·subst e;have:=(jT.1 h).2;rw [jc (bq h)];rw [Bool.eq_iff_iff];simp [b,this]
 ·rw [il e]
theorem jy {S:aa} {K:Nat} {a:List Nat} (h:K∈S.live) (b:bM (S.stayOf K) a=[]):(S.outs K a).live=S.live.filter fun i=>decide (i≠K):=by
 unfold aa.live;rw [bL,List.filter_filter];apply List.filter_congr;intro i c
 by_cases e:i=K
 ·subst e;rw [jc (bq h),b];simp
 ·rw [il e];simp [e]
theorem db {S:aa} {a:Nat} {b:List Nat} (g:1≤b.length):bt S a b=(decide (1≤a∧a - 1∈S.live) && b.all fun x=>(S.stayOf (a - 1)).any fun r=>decide (r.1=x)):=by
 unfold bt aa.stayOf;simp only [BN];obtain ⟨B,d⟩:∃B,(b.all fun x=>decide (x < (S.outOf (a - 1)).length) && !((S.outOf (a - 1)).getD x false))=B:=⟨_,rfl⟩;rw [d]
 cases B with
 | false=>simp
 | true=>
  rw [Bool.and_true,Bool.and_true,Bool.eq_iff_iff];simp only [Bool.and_eq_true,decide_eq_true_eq]
  constructor
  ·rintro ⟨c,f⟩;refine ⟨c,jT.2 ⟨by omega,?_⟩⟩
   obtain ⟨x,h⟩:∃x,x∈b:=by
    cases b with
    | nil=>simp at g
    | cons x l=>exact ⟨x,by simp⟩
   have:=List.all_eq_true.1 d x h;rw [←BN (S.mailOf (a - 1)).tos] at this;intro e;unfold aa.stayOf at e;rw [e] at this;simp at this
  ·rintro ⟨c,f⟩;have:=bq f;exact ⟨c,by omega⟩
structure aa.Ok (S:aa):Prop where
 id:∀i (h:i < S.items.length),S.items[i].m.id=i+1
 sz:∀x∈S.items,dQ x.m∧1≤x.m.tos.length∧x.m.tos.length≤10∧x.out.length=x.m.tos.length
theorem aa.Ok.nil (T:Nat):aa.Ok ⟨[],T⟩:=⟨fun i h=>by simp at h,fun x h=>by simp at h⟩
theorem aa.Ok.plus {S:aa} (h:S.Ok) {m:aX} (f:m.id=S.items.length+1) (g:dQ m) (c:1≤m.tos.length) (d:m.tos.length≤10):(S.plus m).Ok:=by
 refine ⟨fun i b=>?_,fun x a=>?_⟩
 ·rw [dv] at b
  by_cases e:i < S.items.length
  ·simp only [aa.plus];rw [List.getElem_append_left e];exact h.id i e
  ·obtain rfl:i=S.items.length:=by omega
   simp [aa.plus,f]
 ·simp only [aa.plus,List.mem_append,List.mem_singleton] at a
  rcases a with a | rfl
  ·exact h.sz x a
  ·exact ⟨g,c,d,by simp⟩
theorem aa.Ok.outs {S:aa} (h:S.Ok) (K:Nat) (j:List Nat):(S.outs K j).Ok:=by
 refine ⟨fun i g=>?_,fun x l=>?_⟩
 ·rw [bL] at g;have f:=ez S K j i;rw [cd (by rw [bL];exact g),cd g] at f;rw [f];exact h.id i g
 ·obtain ⟨i,g,rfl⟩:=List.getElem_of_mem l;have e:i < S.items.length:=by rwa [bL] at g
  obtain ⟨a,b,c,d⟩:=h.sz S.items[i] (List.getElem_mem e)
  have f:((S.outs K j).items[i]).m=S.items[i].m:=by
   have f:=ez S K j i
   rwa [cd (by rw [bL];exact e),cd e] at f
  have k:((S.outs K j).items[i]).out.length=S.items[i].out.length:=by
   simp only [aa.outs,List.getElem_modify]
   split
   ·rw [uS]
   ·rfl
  rw [f,k];exact ⟨a,b,c,d⟩
theorem aa.Ok.time {S:aa} (h:S.Ok) (T:Nat):aa.Ok ⟨S.items,T⟩:=⟨h.id,h.sz⟩
theorem dk {S:aa} (h:S.Ok) (i:Nat):(S.stayOf i).length≤10:=by
 rcases Nat.lt_or_ge i S.items.length with a | a
 ·rw [gT a];unfold stay;rw [List.length_map];have:=uF S.items[i].out S.items[i].out.length;have:=h.sz S.items[i] (List.getElem_mem a);omega
 ·rw [rb a];simp
structure bh (base:Nat) (w:World) (pb mb:Nat) (q:Nat→Nat) (vr:Value) (S:aa):Prop where
 bag:w.heap[pb]? =some (.cells #[vr,.int .i64 S.time,.int .i64 S.items.length,.map (some mb)] 117 (0,0))
 map:gh w mb q S.live S.items.length
 pbb:base≤pb
 mbb:base≤mb
 one:∀i∈S.live,∀j∈S.live,q i=q j→i=j
 mail:∀i∈S.live,base≤q i∧∃v x,dL w (q i) (S.mailOf i).time (S.mailOf i).frm v (S.mailOf i).body x∧w.ownsRow base 162 2 v (S.stayOf i).length (aR (S.stayOf i))
theorem gN {p:Nat} {w w':World} (b:sc p w w') {k:Nat} {o:Obj} (h:w.heap[k]? =some o) (a:k≠p):w'.heap[k]? =some o:=(b.block k (ah h) a).trans h
theorem gd {w:World} {b:Nat} {a:Array MapEntry} {c:Nat} (h:w.heap[b]? =some (.map a c)) (o:Obj):aL b w (ChangeMaps.setBlock w b o):=
 ⟨by simp [ChangeMaps.setBlock],fun k d=>ChangeMaps.heap_setBlock_other h o d,⟨rfl,rfl,rfl⟩⟩
section
variable {base pb mb:Nat} {q:Nat→Nat} {vr:Value} {S:aa} {w w':World}
theorem bh.pblt (h:bh base w pb mb q vr S):pb < w.heap.size:=ah h.bag
theorem bh.mblt (h:bh base w pb mb q vr S):mb < w.heap.size:=ah h.map
theorem bh.le (h:bh base w pb mb q vr S):base≤w.heap.size:=by have:=h.pblt;have:=h.pbb;omega
theorem bh.keep (h:bh base w pb mb q vr S) (d:Below w.heap.size w w'):bh base w' pb mb q vr S:=
 ⟨ae d h.bag,ae d h.map,h.pbb,h.mbb,h.one,fun i j=>by
  obtain ⟨a,v,x,b,c⟩:=h.mail i j
  exact ⟨a,v,x,ae d b,aA c fun g f e _=>ae d e⟩⟩
theorem bh.timed (h:bh base w pb mb q vr S) {T:Nat} {vr':Value} (d:aL pb w w') (l:w'.heap[pb]? =some (.cells #[vr',.int .i64 T,.int .i64 S.items.length,.map (some mb)] 117 (0,0))):bh base w' pb mb q vr' ⟨S.items,T⟩:=
 ⟨l,aP d h.map (fun e=>by have:=h.map;unfold gh at this;rw [e,h.bag] at this;simp at this),h.pbb,h.mbb,h.one,fun i k=>by
  obtain ⟨a,v,x,b,c⟩:=h.mail i k;refine ⟨a,v,x,aP d b (fun e=>?_),aA c fun g f e _=>aP d e fun j=>?_⟩
  ·unfold dL at b;rw [e,h.bag] at b;simp at b
  ·rw [j,h.bag] at e;simp at e⟩
theorem bh.added (h:bh base w pb mb q vr S) {p s:World} {m:aX} {Q:Nat} {v:Value} {x:Int×Int} (y:aL pb w p) (u:p.heap[pb]? =some (.cells #[vr,.int .i64 m.time,.int .i64 ((S.items.length:Int)+1),.map (some mb)] 117 (0,0)))
  (C:Below p.heap.size p s) (P:p.heap.size≤Q) (E:dL s Q m.time m.frm v m.body x) (I:s.ownsRow p.heap.size 162 2 v m.tos.length (aR (stay m.tos (List.replicate m.tos.length false)))) (J:1≤m.tos.length):
  bh base (ChangeMaps.setBlock s mb (.map (cO (fun i=>if i=S.items.length then Q else q i) (S.live++[S.items.length])) (S.items.length+1))) pb mb (fun i=>if i=S.items.length then Q else q i) vr (S.plus m):=by
 have r:p.heap[mb]? =some (.map (cO q S.live) S.items.length):=aP y h.map (fun e=>by have:=h.map;unfold gh at this;rw [e,h.bag] at this;simp at this);have f:s.heap[mb]? =some (.map (cO q S.live) S.items.length):=ae C r;have D:=gd f (.map (cO (fun i=>if i=S.items.length then Q else q i) (S.live++[S.items.length])) (S.items.length+1));have t:base≤p.heap.size:=by rw [y.1];exact h.le
 have H:pb≠mb:=fun e=>by rw [e,r] at u;simp at u
 have l:∀i∈S.live,i≠S.items.length:=fun i d e=>by have:=bq d;omega
 refine ⟨?_,?_,h.pbb,h.mbb,?_,?_⟩
 ·rw [dv];have:=aP D (ae C u) H;simpa [aa.plus] using this
 ·unfold gh;rw [dv,lz J];exact ChangeMaps.heap_setBlock_same f _
 ·rw [lz J]
  have K:∀i∈S.live,q i < Q:=fun i d=>by
   obtain ⟨_,v,_,b,_⟩:=h.mail i d;have:=ah b;rw [y.1] at P;omega
  intro i d j o e;simp only [List.mem_append,List.mem_singleton] at d o
  rcases d with d | rfl
  ·rcases o with o | rfl
   ·rw [if_neg (l i d),if_neg (l j o)] at e;exact h.one i d j o e
   ·rw [if_neg (l i d),if_pos rfl] at e;have:=K i d;omega
  ·rcases o with o | rfl
   ·rw [if_pos rfl,if_neg (l j o)] at e;have:=K j o;omega
   ·rfl
 ·rw [lz J];intro i d;simp only [List.mem_append,List.mem_singleton] at d
  have k:∀{n:Nat} {v:Value} {L:List Value} {B:Nat},base≤B→s.ownsRow B 162 2 v n L→(ChangeMaps.setBlock s mb (.map (cO (fun i=>if i=S.items.length then Q else q i) (S.live++[S.items.length])) (S.items.length+1))).ownsRow base 162 2 v n L:=fun O I=>by
   refine (aA I fun g F e _=>aP D e fun G=>?_).mono O;rw [G,f] at e;simp at e
  rcases d with d | rfl
  ·have z:=bq d;obtain ⟨a,v,x,b,c⟩:=h.mail i d;simp only [if_neg (l i d)];rw [je z,jU z];have M:dL p (q i) (S.mailOf i).time (S.mailOf i).frm v (S.mailOf i).body x:=aP y b (fun e=>by unfold dL at b;rw [e,h.bag] at b;simp at b);have A:dL s (q i) (S.mailOf i).time (S.mailOf i).frm v (S.mailOf i).body x:=ae C M;refine ⟨a,v,x,aP D A (fun e=>by unfold dL at A;rw [e,f] at A;simp at A),k (Nat.le_refl _) ?_⟩;refine aA c fun g F e _=>ae C (aP y e fun G=>?_);rw [G,h.bag] at e;simp at e
  ·simp only [if_true];rw [dN,mB];have N:(stay m.tos (List.replicate m.tos.length false)).length=m.tos.length:=by rw [nH];simp
   rw [N];exact ⟨by omega,v,x,aP D E (fun e=>by unfold dL at E;rw [e,f] at E;simp at E),k t I⟩
theorem bh.left (h:bh base w pb mb q vr S) {l:World} {K:Nat} {k:List Nat} {v:Value} {x:Int×Int} (f:K∈S.live) (j:sc (q K) w l) (t:dL l (q K) (S.mailOf K).time (S.mailOf K).frm v (S.mailOf K).body x)
  (u:l.ownsRow w.heap.size 162 2 v (bM (S.stayOf K) k).length (aR (bM (S.stayOf K) k))) (o:bM (S.stayOf K) k≠[]):bh base l pb mb q vr (S.outs K k):=by
 obtain ⟨r,A,B,d,z⟩:=h.mail K f;refine ⟨?_,?_,h.pbb,h.mbb,?_,?_⟩
 ·rw [bL];exact gN j h.bag (fun e=>by unfold dL at d;rw [←e,h.bag] at d;simp at d)
 ·unfold gh;rw [bL,jz f o];refine gN j h.map (fun e=>?_);have:=h.map;unfold gh at this;unfold dL at d;rw [e,d] at this;simp at this
 ·rw [jz f o];exact h.one
 ·rw [jz f o];intro i p;rw [ez]
  by_cases e:i=K
  ·subst e;rw [jc (bq f)];exact ⟨r,v,x,t,u.mono h.le⟩
  ·obtain ⟨a,y,x,b,c⟩:=h.mail i p;rw [il e];refine ⟨a,y,x,gN j b (fun m=>e (h.one i p K f m)),aA c fun g s n _=>gN j n fun m=>?_⟩;unfold dL at d;rw [m,d] at n;simp at n
theorem bh.emptied (h:bh base w pb mb q vr S) {o:World} {K:Nat} {z:List Nat} (n:K∈S.live) (r:sc (q K) w o) (y:bM (S.stayOf K) z=[]):o.heap[mb]? =some (.map (cO q S.live) S.items.length)∧
  bh base (ChangeMaps.setBlock o mb (.map (cO q (S.live.filter fun i=>decide (i≠K))) S.items.length)) pb mb q vr (S.outs K z):=by
 obtain ⟨D,F,G,f,E⟩:=h.mail K n
 have d:o.heap[mb]? =some (.map (cO q S.live) S.items.length):=gN r h.map (fun e=>by
  have:=h.map;unfold gh at this;unfold dL at f;rw [e,f] at this
  simp at this)
 have u:=gd d (.map (cO q (S.live.filter fun i=>decide (i≠K))) S.items.length);have l:=gN r h.bag (fun e=>by unfold dL at f;rw [←e,h.bag] at f;simp at f);refine ⟨d,?_,?_,h.pbb,h.mbb,?_,?_⟩
 ·rw [bL];exact aP u l (fun e=>by rw [e,d] at l;simp at l)
 ·unfold gh;rw [bL,jy n y];exact ChangeMaps.heap_setBlock_same d _
 ·rw [jy n y];exact fun i m j C e=>h.one i (List.mem_filter.1 m).1 j (List.mem_filter.1 C).1 e
 ·rw [jy n y];intro i m;obtain ⟨m,v⟩:=List.mem_filter.1 m;have e:i≠K:=by simpa using v
  rw [ez,il e];obtain ⟨a,A,x,b,c⟩:=h.mail i m;have p:dL o (q i) (S.mailOf i).time (S.mailOf i).frm A (S.mailOf i).body x:=gN r b (fun k=>e (h.one i m K n k));refine ⟨a,A,x,aP u p (fun k=>by unfold dL at p;rw [k,d] at p;simp at p),aA c fun g B s _=>?_⟩;have t:=gN r s (fun k=>by unfold dL at f;rw [k,f] at s;simp at s);exact aP u t (fun k=>by rw [k,d] at t;simp at t)
end
theorem fU:Tryz.prog.underlying 3=some (.int .i64):=Tryz.underlying3
theorem pk (w:World):(zeroValue 122).run Tryz.prog w= .ok (.pointer none) w:=by kernel_rfl
theorem D7 {c l a Q:Nat} {q:Nat→Nat} {o:Value} {S:aa} {m:aX} {n b g:World} (h:bh c n l a q o S) (p:aL l n b) (_:b.heap[l]? =some (.cells #[o,.int .i64 m.time,.int .i64 ((S.items.length:Int)+1),.map (some a)] 117 (0,0))) (r:Below b.heap.size b g) (k:m.id=S.items.length+1) (s:S.items.length < 4294967295):
  (Instr.mapUpdate 115 (.map (some a)) (.int .i64 m.id) (.pointer (some ⟨Q,0,none⟩))).run Tryz.prog g= .ok () (ChangeMaps.setBlock g a (.map (cO (fun i=>if i=S.items.length then Q else q i) (S.live++[S.items.length])) (S.items.length+1))):=by
 have d:b.heap[a]? =some (.map (cO q S.live) S.items.length):=aP p h.map (fun e=>by have:=h.map;unfold gh at this;rw [e,h.bag] at this;simp at this);have f:gh g a q S.live S.items.length:=ae r d;have:=Jl (t:=115) (e:=122) fU Tryz.underlying115 f (fun i j=>bq j) s Q (fun i=>if i=S.items.length then Q else q i) (fun i j=>if_neg (by have:=bq j;omega)) (if_pos rfl);rw [k];exact this
theorem zV {a k i:Nat} {q:Nat→Nat} {m:Value} {S:aa} {d b l:World} (h:bh a d k i q m S) (f:aL k d b) (j:Below b.heap.size b l) (o:Obj):Below a d (ChangeMaps.setBlock l i o):=by
 have c:b.heap[i]? =some (.map (cO q S.live) S.items.length):=aP f h.map (fun e=>by have:=h.map;unfold gh at this;rw [e,h.bag] at this;simp at this);have g:a≤b.heap.size:=by rw [f.1];exact h.le
 exact ((f.below h.pbb).trans (j.mono g)).trans ((gd (ae j c) o).below h.mbb)
theorem tG (d b k:Nat) (q:Nat→Nat) (z:Value) (S:aa) (m:aX) (v:Value) (w:World) (h:bh d w b k q z S) (B:Nat) (R:w.ownsRow B 9 1 v m.tos.length (aB m.tos)) (T:dQ m) (x:m.id=S.items.length+1) (ht:1≤m.tos.length) (hn:S.items.length < 4294967295):
  Calls Tryz.prog 166 #[.pointer (some ⟨b,0,none⟩),.agg (aY m v)] w fun e U=>e= .returned (.tuple #[])∧∃q',bh d U b k q' z (S.plus m)∧Below d w U:=by
 have E:=Lib.hid h;have Z:=Lib.hid R;have HZ:=Lib.hid T;have c:∀o:Obj,(w.alloc o).heap[b]? =some (.cells #[z,.int .i64 S.time,.int .i64 S.items.length,.map (some k)] 117 (0,0)):=fun o=>ae ((Below.refl _ w).alloc (Nat.le_refl _) o) h.bag;have c1:∀o:Obj,(w.alloc o).cell? ⟨b,1,none⟩=some (.int .i64 S.time):=fun o=>by rw [Lib.cell_of_heap (c o)];rfl
 have c2:∀o:Obj,(w.alloc o).cell? ⟨b,2,none⟩=some (.int .i64 S.items.length):=fun o=>by rw [Lib.cell_of_heap (c o)];rfl
 have c3:∀o:Obj,(w.alloc o).cell? ⟨b,3,none⟩=some (.map (some k)):=fun o=>by rw [Lib.cell_of_heap (c o)];rfl
 have f1:∀o:Obj,(w.alloc o).frozen? ⟨b,1,none⟩=false:=fun o=>Lib.frozen_of_heap (c o) 1;have f2:∀o:Obj,(w.alloc o).frozen? ⟨b,2,none⟩=false:=fun o=>Lib.frozen_of_heap (c o) 2;have X:=Lib.hid c;obtain ⟨s,P⟩:∃s,w.heap.size=s:=⟨_,rfl⟩;have K:b≠s:=by have:=h.pblt;omega
 have H:=Lib.hid P;unfold aY;have u:=Lib.hid x;clear h R T c P x;go_enter Tryz.func166,Tryz.ntmps166;go_wp2_with fail
 obtain ⟨a,i⟩:∃a:World,(((w.alloc (.cells #[.int .i64 m.id,.int .i64 m.time,.string (bs m.frm),v,.string (bs m.body)] 45)).setCell ⟨b,2,none⟩ (.int .i64 m.id)).setCell ⟨b,1,none⟩ (.int .i64 m.time))=a:=⟨_,rfl⟩;rw [i];obtain ⟨j,f⟩:∃j:World,w.alloc (.cells #[.int .i64 m.id,.int .i64 m.time,.string (bs m.frm),v,.string (bs m.body)] 45)=j:=⟨_,rfl⟩;have A:Below w.heap.size w j:=by rw [←f];exact (Below.refl _ _).alloc (Nat.le_refl _) _
 have D:bh d j b k q z S:=E.out.keep A;have L:j.heap[w.heap.size]? =some (.cells #[.int .i64 m.id,.int .i64 m.time,.string (bs m.frm),v,.string (bs m.body)] 45 (0,0)):=by rw [←f];exact heap_alloc_new w _
 have C:aL b j a:=by rw [←i,f];exact ((aL.refl b j).setCell _).setCell _
 have J:a.heap[b]? =some (.cells #[z,.int .i64 m.time,.int .i64 ((S.items.length:Int)+1),.map (some k)] 117 (0,0)):=by
  rw [←i,f];have:=heap_setCell_same _ b 1 _ _ (.int .i64 m.time) (heap_setCell_same j b 2 _ _ (.int .i64 m.id) D.bag);refine Eq.trans this ?_;rw [u.out];rfl
 have r:a.heap[w.heap.size]? =some (.cells #[.int .i64 m.id,.int .i64 m.time,.string (bs m.frm),v,.string (bs m.body)] 45 (0,0)):=aP C L (by rw [H.out];exact fun e=>K e.symm);have d3:a.drew.cell? ⟨b,3,none⟩=some (.map (some k)):=by show a.cell? _=_;rw [Lib.cell_of_heap J];rfl
 have e0:a.drew.cell? ⟨w.heap.size,0,none⟩=some (.int .i64 m.id):=by show a.cell? _=_;rw [Lib.cell_of_heap r];rfl
 have e1:a.drew.cell? ⟨w.heap.size,1,none⟩=some (.int .i64 m.time):=by show a.cell? _=_;rw [Lib.cell_of_heap r];rfl
 have e2:a.drew.cell? ⟨w.heap.size,2,none⟩=some (.string (bs m.frm)):=by show a.cell? _=_;rw [Lib.cell_of_heap r];rfl
 have e3:a.drew.cell? ⟨w.heap.size,3,none⟩=some v:=by show a.cell? _=_;rw [Lib.cell_of_heap r];rfl
 have e4:a.drew.cell? ⟨w.heap.size,4,none⟩=some (.string (bs m.body)):=by show a.cell? _=_;rw [Lib.cell_of_heap r];rfl
 have y:bg a.drew v m.tos.length 1 (aB m.tos):=aF (aA Z.out fun g a0 e _=>aP (C.drew) (ae A e) (fun e'=>by rw [e',E.out.bag] at e;simp at e));have G:=Lib.hid (rN m v a.drew y HZ.out);have p:=Lib.hid (show a.drew.heap[b]? =_ from J);have n:=Lib.hid C.drew;have l:=Lib.hid D;have I:=Lib.hid (show a.drew.heap[w.heap.size]? =_ from r);have F:=Lib.hid (A.mono E.out.le);clear c1 c2 c3 f1 f2 i f J C D r L A y
 go_region_law (first
  | (go_simp;go_at_call 220;refine G.out.mono ?_;rintro e V ⟨Q,g,rfl,M,N,O,t⟩;have a1:V.cell? ⟨b,3,none⟩=some (.map (some k)):=(by rw [Lib.cell_of_heap (ae t p.out)];rfl);have a2:V.cell? ⟨w.heap.size,0,none⟩=some (.int .i64 m.id):=(by rw [Lib.cell_of_heap (ae t I.out)];rfl);have a3:=D7 (Q:=Q) l.out n.out p.out t u.out hn;have Y:=Lib.hid (l.out.added n.out p.out t N M O ht);have W:=Lib.hid (zV l.out n.out t);clear M N O t))
 all_goals
  refine bodyPost_end (results_none rfl _ _ _) rfl ?_;exact ⟨rfl,_,Y.out,(F.out).trans (W.out _)⟩
theorem Aj {p:Nat} {w a:World} (h:sc p w.drew a):sc p w a:=⟨h.size,h.block,h.still⟩
theorem pz (d F k:Nat) (q:Nat→Nat) (U J:Value) (S:aa) (K:Nat) (m:List Nat) (w:World) (h:bh d w F k q U S) (a3:S.Ok) (hp:bg w J m.length 1 (aZ m)) (G:K∈S.live) (a4:m.length≤255) (hn:S.items.length≤4294967295):
  Calls Tryz.prog 169 #[.pointer (some ⟨F,0,none⟩),.agg #[.int .i64 ((K:Int)+1),J]] w fun e w'=>∃P,e= .returned P∧w'.ownsRow w.heap.size 9 1 P (dx (S.stayOf K) m).length (aB (dx (S.stayOf K) m))∧bh d w' F k q U (S.outs K m)∧Below d w w':=by
 have a1:=h.le;obtain ⟨f,u⟩:∃f:World,w.alloc (.cells #[.int .i64 ((K:Int)+1),J] 193)=f:=⟨_,rfl⟩;have Q:Below w.heap.size w f:=by rw [←u];exact (Below.refl _ _).alloc (Nat.le_refl _) _
 have L:bh d f F k q U S:=h.keep Q;have N:f.heap[w.heap.size]? =some (.cells #[.int .i64 ((K:Int)+1),J] 193 (0,0)):=by rw [←u];exact heap_alloc_new w _
 have c3:f.drew.cell? ⟨F,3,none⟩=some (.map (some k)):=by show f.cell? _=_;rw [Lib.cell_of_heap L.bag];rfl
 have e0:f.drew.cell? ⟨w.heap.size,0,none⟩=some (.int .i64 ((K:Int)+1)):=by show f.cell? _=_;rw [Lib.cell_of_heap N];rfl
 have e1:f.drew.cell? ⟨w.heap.size,1,none⟩=some J:=by show f.cell? _=_;rw [Lib.cell_of_heap N];rfl
 have p:∀i∈S.live,i < 4294967296:=fun i hi=>by have:=bq hi;omega
 have hM:gh f.drew k q S.live S.items.length:=L.map;have a9:=bq G
 have b0:(Instr.lookup 115 (.map (some k)) (.int .i64 ((K:Int)+1)) false).run Tryz.prog f.drew= .ok (.pointer (some ⟨q K,0,none⟩)) f.drew:=
  ig (t:=115) (e:=122) fU Tryz.underlying115 hM p K (by omega) G false
 obtain ⟨O,v,x,H,hr⟩:=L.mail K G;have W:=Lib.hid (oA d (q K) _ _ _ v J (S.stayOf K) m x f.drew H O hr (hp.below Q.drew) (by have:=dk a3 K;omega) a4);have l:=Lib.hid L;have C:=Lib.hid Q;have Y:=Lib.hid u;have Z:=Lib.hid N;have V:=Lib.hid H;have HL:=Lib.hid p;have a2:q K≠w.heap.size:=fun e=>by unfold dL at H;rw [e,N] at H;simp at H
 clear H hr L N Q hM p hp h u;go_enter Tryz.func169,Tryz.ntmps169;go_wp2_with fail
 rw [Y.out];go_region
 all_goals
  go_wp2_with fail
  refine W.out.mono ?_;rintro e j ⟨P,vs,rfl,z,y,A,n⟩
  obtain ⟨gs,cs,es⟩:∃a c,vs= .slice a (bM (S.stayOf K) m).length c:=by
   rcases A.2 with ⟨e,h0⟩ | ⟨g,a7,a0,e,_⟩
   ·exact ⟨_,_,by rw [h0];exact e⟩
   ·exact ⟨_,_,e⟩
  subst es;have b:sc (q K) f j:=Aj n;have f2:j.cell? ⟨q K,2,none⟩=some (.slice gs (bM (S.stayOf K) m).length cs):=by rw [Lib.cell_of_heap y];rfl
  have D:Hid (Below d w j):=Lib.hid ((C.out.mono a1).trans (b.below O l.out.le))
  by_cases R:bM (S.stayOf K) m=[]
  ·obtain ⟨T,s⟩:=l.out.emptied G b R;have r:(bM (S.stayOf K) m).length=0:=by rw [R];rfl
   have o:∀I:TypeId,(Builtin.delete_ #[115,3] I #[.map (some k),.int .i64 ((K:Int)+1)]).run Tryz.prog j.drew= .ok (.tuple #[]) (ChangeMaps.setBlock j.drew k (.map (cO q (S.live.filter fun i=>decide (i≠K))) S.items.length)):=fun I=>
    Bg (t:=115) (e:=122) fU Tryz.underlying115 (w:=j.drew) (c:=S.items.length) T HL.out (gJ S) K (by omega) G
   have A3:Hid (bh d (ChangeMaps.setBlock j.drew k (.map (cO q (S.live.filter fun i=>decide (i≠K))) S.items.length)) F k q U (S.outs K m)):=Lib.hid ⟨s.bag,s.map,s.pbb,s.mbb,s.one,s.mail⟩;have S3:=gd (w:=j.drew) T (.map (cO q (S.live.filter fun i=>decide (i≠K))) S.items.length);have B:=Lib.hid (aA (w:=j.drew) z.drew fun g a0 e _=>aP S3 e fun e'=>by rw [e'] at e;rw [show j.drew.heap[k]? =_ from T] at e;simp at e);have M:=Lib.hid (D.out.drew.trans (S3.below l.out.mbb));obtain ⟨w3,E⟩:∃w3,ChangeMaps.setBlock j.drew k (.map (cO q (S.live.filter fun i=>decide (i≠K))) S.items.length)=w3:=⟨_,rfl⟩;rw [E] at A3 B M;have a5:∀I:TypeId,(Builtin.delete_ #[115,3] I #[.map (some k),.int .i64 ((K:Int)+1)]).run Tryz.prog j.drew= .ok (.tuple #[]) w3:=fun I=>by rw [o I,E]
   have a6:j.drew.cell? ⟨F,3,none⟩=some (.map (some k)):=by
    show j.cell? _=_;rw [Lib.cell_of_heap (gN b l.out.bag (fun e=>by have:=V.out;unfold dL at this;rw [←e,l.out.bag] at this;simp at this))];rfl
   have a8:j.drew.cell? ⟨w.heap.size,0,none⟩=some (.int .i64 ((K:Int)+1)):=by
    show j.cell? _=_;rw [Lib.cell_of_heap (gN b Z.out (fun e=>a2 e.symm))];rfl
   rw [r] at f2;clear n b y A z s T S3 D r E o;go_wp2_with fail
   go_region
   all_goals
    go_wp2_with fail
    go_ret;exact ⟨P,rfl,B.out.mono (by have:=C.out.size;exact this),A3.out,M.out⟩
  ·have s:=Lib.hid (l.out.left G b y A R)
   have r:(((bM (S.stayOf K) m).length:Int) == 0)=false:=by
    rw [beq_eq_false_iff_ne];intro e;exact R (List.eq_nil_of_length_eq_zero (by omega))
   have X:=Lib.hid z;clear n b y A z;go_wp2_with fail
   go_ret;exact ⟨P,rfl,X.out.mono (by have:=C.out.size;exact this),s.out,D.out⟩
end Go.Proofs.YtofpegbpgkkgkaaGreatDoor
