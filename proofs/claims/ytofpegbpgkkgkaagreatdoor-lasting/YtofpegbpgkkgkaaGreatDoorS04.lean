import Derived.Test.YtofpegbpgkkgkaaGreatDoorS02
import Derived.Deep.RegionLaw
import Derived.Deep.AppendLies
import Derived.BigRegion
import Derived.Deep.Onto
namespace Go.Proofs.YtofpegbpgkkgkaaGreatDoor
set_option maxHeartbeats 8000000
set_option maxRecDepth 1000000
open Go.RowKit
theorem bg.elem {w:World} {a:Option Addr} {n m d:Nat} {g:List Value} (h:bg w (.slice a n d) m 1 g) (k:Nat) (j:k < m):∃b c,a=some ⟨b,c,none⟩∧b < w.heap.size∧w.cell? ⟨b,c+k,none⟩=g[k]? :=by
 obtain ⟨l,f,e,i⟩:=h.one;injection e with e1 e2 e3;subst e1;exact i k j
def dH (l:List UInt8):Bool:=(jb l).2 && ((jb l).1 == l)
def yW (l:List (List UInt8)) (k:Nat):Bool:=(List.range k).all fun j=> !(l.getD j [] == l.getD k [])
def oG (l:List (List UInt8)) (k:Nat):Bool:=dH (l.getD k []) && yW l k
def qp (n T:Nat) (m:aX):Bool:=decide (m.id=n+1) && decide (T≤m.time) && decide (m.time≤1000000000) && decide (1≤m.tos.length) && decide (m.tos.length≤10) && decide (m.body.length≤1000) && (m.frm.isEmpty || dH m.frm) && (List.range m.tos.length).all (oG m.tos)
theorem qG {n k:Nat} {q:Nat→Bool} (h:k < n) (b:q k=false):(List.range n).all q=false:=by
 cases a:(List.range n).all q with
 | false=>rfl
 | true=>
  have:=List.all_eq_true.1 a k (List.mem_range.2 h);rw [b] at this;cases this
theorem Gl {k:Nat} {q:Nat→Bool}:(List.range (k+1)).all q=((List.range k).all q && q k):=by
 rw [List.range_succ,List.all_append];simp
theorem tS (a b:List UInt8):((bs a).toList == (bs b).toList)=(a == b):=by
 rw [Lib.toList_data,Lib.toList_data,aI,aI]
structure fH where
 m:aX
 out:List Bool
structure aa where
 items:List fH
 time:Nat
def EE (l:List Bool):List Value:=l.map Value.bool
def Cd (base:Nat) (w:World) (x:fH×Value×Nat):Prop:=
 w.ownsRow base 9 1 x.2.1 x.1.m.tos.length (aB x.1.m.tos)∧base≤x.2.2∧w.heap[x.2.2]? =some (.cells (EE x.1.out).toArray 4 (0,0))∧x.1.out.length=x.1.m.tos.length∧1≤x.1.m.tos.length∧dQ x.1.m
theorem dG {ts:List TypeId} {w f:World} {a d n:Nat} {e:TypeId} {v:Value} {i:List Value} (p:cJ ts w f) (o:e ∉ ts) (h:w.ownsRow a e d v n i):f.ownsRow a e d v n i:=by
 refine ⟨h.1,?_⟩
 rcases h.2 with h | ⟨g,b,c,j,k,l,m⟩
 ·exact .inl h
 ·exact .inr ⟨g,b,c,j,k,p.cells l o,m⟩
theorem Cd.touch {b:List TypeId} {w d:World} {a:Nat} {x:fH×Value×Nat} (c:cJ b w d) (e:9 ∉ b) (f:4 ∉ b) (h:Cd a w x):Cd a d x:=
 ⟨dG c e h.1,h.2.1,c.cells h.2.2.1 f,h.2.2.2⟩
theorem sZ {w:World} {b:Nat} {o:Obj} (h:w.heap[b]? =some o):b < w.heap.size:=by
 rcases Nat.lt_or_ge b w.heap.size with a | a
 ·exact a
 ·rw [Array.getElem?_eq_none a] at h;cases h
def zq (out:List Bool) (l:List Nat) (i:Nat):Bool:=decide (l.getD i 0 < out.length) && !(out.getD (l.getD i 0) false) && (decide (i=0) || decide (l.getD (i - 1) 0 < l.getD i 0))
def xZ (S:aa) (id:Nat) (l:List Nat):Bool:=decide (1≤id) && decide (id≤S.items.length) && decide (1≤l.length) && (List.range l.length).all (zq ((S.items.map (·.out)).getD (id - 1) []) l)
theorem aL.drew {b:Nat} {w a:World} (h:aL b w a):aL b w a.drew:=⟨h.1,h.2,h.3.trans ⟨rfl,rfl,rfl⟩⟩
theorem cJ.drew {a:List TypeId} {w b:World} (h:cJ a w b):cJ a w b.drew:=⟨h.1,h.2,h.3.trans ⟨rfl,rfl,rfl⟩⟩
theorem DQ {w:World} {a b:Nat} {A B:Array Value} {t u:TypeId} {y z:Nat×Nat} (d:w.heap[a]? =some (.cells A t y)) (c:w.heap[b]? =some (.cells B u z)) (h:t≠u):a≠b:=by
 intro e;subst e;rw [d] at c;injection c with c;injection c with _ c _;exact h c
def jV (o:List Bool) (l:List Nat):List Bool:=l.foldl (fun o x=>o.set x true) o
theorem uS (o:List Bool) (l:List Nat):(jV o l).length=o.length:=by
 induction l generalizing o with
 | nil=>rfl
 | cons x l ih=>show (jV (o.set x true) l).length=_;rw [ih,List.length_set]
def aa.outs (S:aa) (K:Nat) (ps:List Nat):aa:=⟨S.items.modify K (fun x=>⟨x.m,jV x.out ps⟩),S.time⟩
def Jq:List UInt8:=[78,111,116,32,100,101,108,105,118,101,114,101,100,58]
def Ai (tos:List (List UInt8)) (ps:List Nat):List UInt8:=Jq++ps.flatMap fun x=>13::10::tos.getD x []
def aa.failed (S:aa) (m:aX) (ps:List Nat) (time:Nat):aa:=
 if m.frm=[] then ⟨S.items,time⟩ else ⟨S.items++[⟨⟨S.items.length+1,time,[],[m.frm],Ai m.tos ps⟩,[false]⟩],time⟩
def bI (l:List UInt8):Nat×List Nat:=(be (l.take 4),lg (be ((l.drop 4).take 1)) (l.drop 5))
def aa.mailOf (S:aa) (K:Nat):aX:=((S.items[K]?).map (·.m)).getD ⟨0,0,[],[],[]⟩
def aa.takes (S:aa) (l:List UInt8):Option aa:=
 match l with
 | []=>none
 | c::r=>
  if c=77 then
   if qp S.items.length S.time (iL r) && (cA (iL r) == l) then some ⟨S.items++[⟨iL r,List.replicate (iL r).tos.length false⟩],(iL r).time⟩ else none
  else if c=71 then
   if xZ S (bI r).1 (bI r).2 && (71::aM (bI r).1 (bI r).2 == l) then some (S.outs ((bI r).1 - 1) (bI r).2) else none
  else if c=70 then
   if xZ S (bI (r.drop 4)).1 (bI (r.drop 4)).2 && decide (S.time≤be (r.take 4)) && decide (be (r.take 4)≤1000000000) && (70::(az 4 (be (r.take 4))++aM (bI (r.drop 4)).1 (bI (r.drop 4)).2) == l) then
    some ((S.outs ((bI (r.drop 4)).1 - 1) (bI (r.drop 4)).2).failed (S.mailOf ((bI (r.drop 4)).1 - 1)) (bI (r.drop 4)).2 (be (r.take 4)))
   else none
  else none
theorem JA (S:aa) (r:List UInt8):S.takes (71::r)=if xZ S (bI r).1 (bI r).2 && (71::aM (bI r).1 (bI r).2 == 71::r) then some (S.outs ((bI r).1 - 1) (bI r).2) else none:=by
 unfold aa.takes;simp only;rw [if_neg (by decide),if_pos trivial]
theorem Jz (S:aa) (r:List UInt8):S.takes (70::r)=if xZ S (bI (r.drop 4)).1 (bI (r.drop 4)).2 && decide (S.time≤be (r.take 4)) && decide (be (r.take 4)≤1000000000) && (70::(az 4 (be (r.take 4))++aM (bI (r.drop 4)).1 (bI (r.drop 4)).2) == 70::r) then some ((S.outs ((bI (r.drop 4)).1 - 1) (bI (r.drop 4)).2).failed (S.mailOf ((bI (r.drop 4)).1 - 1)) (bI (r.drop 4)).2 (be (r.take 4))) else none:=by
 unfold aa.takes;simp only;rw [if_neg (by decide),if_neg (by decide),if_pos trivial]
theorem vF {w:World} {a n:Nat} {e:TypeId} {v:Value} {f:List Value} (h:w.ownsRow a e 1 v n f):bg w v n 1 f:=by
 refine ⟨h.1,?_⟩
 rcases h.2 with ⟨b,l⟩ | ⟨g,i,k,b,_,m,c,_,_,d⟩
 ·exact .inl ⟨l,none,0,b⟩
 ·refine .inr ⟨g,0,i,b,c,fun j o=>?_⟩;rw [Nat.zero_add,Lib.cell_of_heap m,←Array.getElem?_toList,←List.getElem?_take_of_lt o,d]
theorem qM (a b:List UInt8):((bs a).toList == b)=(a == b):=by rw [Lib.toList_data,aI]
def iW (out:List Bool) (k:Nat):List Nat:=(List.range k).filter fun i=> !(out.getD i false)
theorem uF (a:List Bool) (k:Nat):(iW a k).length≤k:=by
 unfold iW;have:=List.length_filter_le (fun i=> !(a.getD i false)) (List.range k);simpa using this
def dY (l:List UInt8):List UInt8:=if (jb l).2 then (jb l).1 else []
theorem oL (l:List UInt8) (m:Int) (w:World) (q:l.length≤140737488355328) (n:w.cell? ⟨0,0,none⟩=some (.int .i64 m)):
  Calls Tryz.prog 210 #[.string (bs l)] w fun e t=>e= .returned (.tuple #[.string (bs (dY l)),.bool (jb l).2])∧Below w.heap.size w t:=by
 have a:=vz (bs l) m w (by rw [aG];exact q) n;go_enter Tryz.func210,Tryz.ntmps210;go_wp2_with fail
 refine a.mono ?_;rintro e u ⟨x,y,f,rfl,h,k⟩;obtain ⟨c,rfl⟩:∃c,x=bs c:=⟨_,(Eb x).symm⟩;obtain ⟨d,rfl⟩:∃d,y=bs d:=⟨_,(Eb y).symm⟩;rw [aI,aI,aI] at h;have b:=xv l;rw [h] at b;obtain ⟨o,p⟩:=b;have r:(bs c).size≤20:=by rw [aG];exact o
 have s:(bs d).size≤40:=by rw [aG];exact p
 have g:Hid (jb l=(c++64::d,f)):=Lib.hid (by unfold jb;rw [h]);have j:=Lib.hid k;clear h k o p a n
 cases f with
 | false=>
  have i:Hid (dY l=[]):=Lib.hid (by unfold dY;rw [g.out];rfl);go_wp2_with fail
  go_ret2
  exact ⟨by rw [i.out,g.out];rfl,j.out⟩
 | true=>
  have i:Hid (dY l=c++64::d):=Lib.hid (by unfold dY;rw [g.out];rfl);go_wp2_with fail
  go_ret2
  refine ⟨?_,j.out⟩;rw [show (⟨#[64]⟩:ByteArray)=bs [64] from rfl,cE,cE,i.out,g.out];simp
theorem um (l:List UInt8) (m:Int) (w:World) (j:l.length≤140737488355328) (i:w.cell? ⟨0,0,none⟩=some (.int .i64 m)):
  Calls Tryz.prog 218 #[.string (bs l)] w fun e k=>e= .returned (.bool (dH l))∧Below w.heap.size w k:=by
 have a:=oL l m w j i
 have b:Hid (dH l=((jb l).2 && (dY l == l))):=Lib.hid (by
  unfold dH dY
  cases (jb l).2 <;> rfl)
 obtain ⟨K,d⟩:∃K,dY l=K:=⟨_,rfl⟩;obtain ⟨f,g⟩:∃f,(jb l).2=f:=⟨_,rfl⟩;rw [d,g] at a b;clear d g;go_enter Tryz.func218,Tryz.ntmps218;go_wp2_with fail
 refine a.mono ?_;rintro e n ⟨rfl,h⟩;have c:=Lib.hid h;clear h a i
 cases f with
 | false=>
  go_wp2_with fail
  go_ret;exact ⟨cG (by rw [b.out];rfl),c.out⟩
 | true=>
  go_wp2_with fail
  go_ret;refine ⟨cG ?_,c.out⟩;rw [tS,b.out];simp
def lh (l:List Nat) (i:Nat):Bool:=decide (i=0) || decide (l.getD (i - 1) 0 < l.getD i 0)
def bF (l:List Nat):Bool:=(List.range l.length).all (lh l)
theorem zh (v:Value) (l:List Nat) (w:World) (h:bg w v l.length 1 (aZ l)) (O:l.length≤255):
  Calls Tryz.prog 221 #[v] w fun e r=>e= .returned (.bool (bF l))∧∃n,r=w.drewN n:=by
 obtain ⟨a,G,rfl,_⟩:=h.one;have s:=Lib.hid h;have I:(l.length:Int)≤255:=by omega
 clear h;go_enter Tryz.func221,Tryz.ntmps221;go_wp2_with fail
 go_loopw [3] (fun i r=>∃j q:Nat,(j+1≤l.length∨j=0)∧i= .int .i64 ((j:Int)+1)∧Hid ((List.range (j+1)).all (lh l)=true)∧r=w.drewN q) (fun i _=>l.length - (intOf i).toNat)
 case atStart=>exact ⟨0,0,.inr rfl,rfl,Lib.hid (by simp [lh]),rfl⟩
 case round=>
  obtain ⟨j,q,g,rfl,o,rfl⟩:=hrel
  by_cases c:j+1 < l.length
  ·have D:(j:Int)+1 < (l.length:Int):=by omega
   have d:j < l.length:=by omega
   have C:(j:Int) < (l.length:Int):=by omega
   have J:IntKind.i64.wrap ((j:Int)+1 - 1)=(j:Int):=by rw [IntKind.wrap_i64];omega
   have K:IntKind.i64.wrap (j:Int)=(j:Int):=by rw [IntKind.wrap_i64];omega
   obtain ⟨b,m,rfl,_,B⟩:=s.out.elem j d;obtain ⟨L,E,e,_,f⟩:=s.out.elem (j+1) c;injection e with e;injection e with e1 e2;subst e1 e2;have M:w.cell? ⟨b,m+j,none⟩=some (.int .i64 (l[j]:Int)):=by rw [B];simp [aZ,d]
   have N:w.cell? ⟨b,m+(j+1),none⟩=some (.int .i64 (l[j+1]:Int)):=by rw [f];simp [aZ,c]
   have u:=Lib.hid (show l.getD j 0=l[j] by rw [List.getD_eq_getElem?_getD,List.getElem?_eq_getElem d];rfl);have z:=Lib.hid (show l.getD (j+1) 0=l[j+1] by rw [List.getD_eq_getElem?_getD,List.getElem?_eq_getElem c];rfl)
   generalize l[j]=x at *
   generalize l[j+1]=y at *
   clear B f g
   cases t:decide (y≤x) with
   | true=>
    have k:y≤x:=by simpa using t
    have p:Hid (bF l=false):=Lib.hid (qG c (by unfold lh;rw [z.out,show j+1 - 1=j by omega,u.out,decide_eq_false (show ¬x < y by omega)];rfl));go_wp2_with fail
    go_quiet (fail)
    go_wp2_with fail
    go_ret;exact ⟨by rw [p.out];rfl,_,by simp;rfl⟩
   | false=>
    have k:x < y:=by simpa using t
    have F:Hid ((List.range (j+1+1)).all (lh l)=true):=Lib.hid (by rw [Gl,o.out];unfold lh;rw [z.out,show j+1 - 1=j by omega,u.out,decide_eq_true k];simp);go_wp2_with fail
    go_quiet (fail)
    go_wp2_with fail
    exact ⟨⟨j+1,q+nq,.inl (by omega),congrArg (Value.int .i64) (by omega),F,rfl⟩,by simp [intOf];omega⟩
  ·have p:Hid (bF l=true):=Lib.hid (by
    rcases g with g | g
    ·have:l.length=j+1:=by omega
     unfold bF;rw [this];exact o.out
    ·subst g
     rcases Nat.eq_zero_or_pos l.length with A | A
     ·unfold bF;rw [A];rfl
     ·have:l.length=1:=by omega
      unfold bF;rw [this];exact o.out)
   have H:(l.length:Int)≤(j:Int)+1:=by omega
   go_wp2_with fail
   go_ret;exact ⟨by rw [p.out];rfl,q,rfl⟩
def stay (tos:List (List UInt8)) (out:List Bool):List (Nat×List UInt8):=(iW out out.length).map fun i=>(i,tos.getD i [])
theorem Br (o:List Bool) (l:List Nat) (i:Nat) (h:i < o.length):(jV o l).getD i false=(o.getD i false || l.contains i):=by
 induction l generalizing o with
 | nil=>simp [jV]
 | cons x l ih=>
  show (jV (o.set x true) l).getD i false=_;rw [ih _ (by rw [List.length_set];exact h),List.getD_eq_getElem?_getD,List.getD_eq_getElem?_getD,List.getElem?_set]
  by_cases a:x=i
  ·subst a;simp [h]
  ·have:(i == x)=false:=by simpa using fun e=>a e.symm
   rw [if_neg a,List.contains_cons,this,Bool.false_or]
theorem wR (o:List Bool) (l:List Nat):iW (jV o l) (jV o l).length=(iW o o.length).filter fun i=> !(l.contains i):=by
 unfold iW;rw [List.filter_filter,uS];apply List.filter_congr;intro i a;rw [Br o l i (List.mem_range.1 a)]
 cases o.getD i false <;> cases l.contains i <;> rfl
theorem rV (a:List (List UInt8)) (o:List Bool) (l:List Nat):stay a (jV o l)=(stay a o).filter fun r=> !(l.contains r.1):=by
 unfold stay;rw [wR,List.filter_map];rfl
theorem lW (o:List Bool) (i:Nat):i∈iW o o.length ↔ i < o.length∧o.getD i false=false:=by
 unfold iW;rw [List.mem_filter,List.mem_range]
 cases o.getD i false <;> simp
theorem sJ {l:List Nat} (h:bF l=true):l.Pairwise (·< ·):=by
 rw [bF,List.all_eq_true] at h
 have a:∀i,i+1 < l.length→l.getD i 0 < l.getD (i+1) 0:=fun i b=>by
  have:=h (i+1) (List.mem_range.2 b);simpa [lh] using this
 have c:∀d i,i+d+1 < l.length→l.getD i 0 < l.getD (i+d+1) 0:=fun d=>by
  induction d with
  | zero=>intro i b;exact a i b
  | succ d ih=>
   intro i b;have k:=ih i (by omega);have m:=a (i+d+1) (by omega);have e:i+(d+1)+1=i+d+1+1:=by omega
   rw [e];omega
 rw [List.pairwise_iff_getElem];intro i j b f g;obtain ⟨d,rfl⟩:∃d,j=i+d+1:=⟨j - i - 1,by omega⟩
 have:=c d i f
 rwa [List.getD_eq_getElem?_getD,List.getD_eq_getElem?_getD,List.getElem?_eq_getElem b,List.getElem?_eq_getElem f] at this
theorem qm:∀{a b:List Nat},a.Pairwise (·< ·)→b.Pairwise (·< ·)→(∀i,i∈a ↔ i∈b)→a=b
 | [],[],_,_,_=>rfl
 | [],y::b,_,_,h=>by have:=(h y).2 (by simp);cases this
 | x::a,[],_,_,h=>by have:=(h x).1 (by simp);cases this
 | x::a,y::b,ha,hb,h=>by
  rw [List.pairwise_cons] at ha hb
  have e:x=y:=by
   have d:=(h x).1 (by simp);have f:=(h y).2 (by simp)
   rcases List.mem_cons.1 d with e | d
   ·exact e
   ·rcases List.mem_cons.1 f with e | f
    ·exact e.symm
    ·have:=hb.1 x d;have:=ha.1 y f;omega
  subst e;rw [qm ha.2 hb.2];intro i;have g:=h i;simp only [List.mem_cons] at g
  constructor
  ·intro c;have:=ha.1 i c
   rcases g.1 (.inr c) with e | e
   ·omega
   ·exact e
  ·intro c;have:=hb.1 i c
   rcases g.2 (.inr c) with e | e
   ·omega
   ·exact e
theorem mz (o:List Bool) (k:Nat):(iW o k).Pairwise (·< ·):=(List.pairwise_lt_range).filter _
theorem DL (a:List (List UInt8)) (o:List Bool) (l:List Nat) (c:bF l=true) (b:∀x∈l,x < o.length∧o.getD x false=false):((stay a o).filter fun r=>l.contains r.1).map (·.2)=l.map fun i=>a.getD i []:=by
 unfold stay;rw [List.filter_map,List.map_map]
 have e:(iW o o.length).filter ((fun r:Nat×List UInt8=>l.contains r.1) ∘ fun i=>(i,a.getD i []))=l:=by
  apply qm ((mz o _).filter _) (sJ c);intro i;rw [List.mem_filter,lW];simp only [Function.comp,List.contains_iff_mem];exact ⟨fun h=>h.2,fun h=>⟨b i h,h⟩⟩
 rw [e];rfl
theorem FC (o:List Bool) (l:List Nat):(List.range l.length).all (zq o l)=(bF l && l.all fun x=>decide (x < o.length) && !(o.getD x false)):=by
 have b:∀i,zq o l i=(lh l i && (decide (l.getD i 0 < o.length) && !(o.getD (l.getD i 0) false))):=fun i=>by
  unfold zq lh;rw [Bool.and_comm]
 have c:(List.range l.length).all (fun i=>decide (l.getD i 0 < o.length) && !(o.getD (l.getD i 0) false))=l.all fun x=>decide (x < o.length) && !(o.getD x false):=by
  rw [Bool.eq_iff_iff,List.all_eq_true,List.all_eq_true]
  constructor
  ·intro h x d;obtain ⟨i,a,rfl⟩:=List.getElem_of_mem d;have:=h i (List.mem_range.2 a)
   rwa [List.getD_eq_getElem?_getD,List.getElem?_eq_getElem a] at this
  ·intro h i a;have a:=List.mem_range.1 a;have:=h l[i] (List.getElem_mem a);rw [List.getD_eq_getElem?_getD,List.getElem?_eq_getElem a];exact this
 rw [←c,bF,Bool.eq_iff_iff];simp only [Bool.and_eq_true,List.all_eq_true,b];exact ⟨fun h=>⟨fun i a=>(h i a).1,fun i a=>(h i a).2⟩,fun h i a=>⟨h.1 i a,h.2 i a⟩⟩
theorem BN (a:List (List UInt8)) (o:List Bool) (x:Nat):(stay a o).any (fun r=>decide (r.1=x))=(decide (x < o.length) && !(o.getD x false)):=by
 rw [Bool.eq_iff_iff,List.any_eq_true];unfold stay;simp only [List.mem_map,Bool.and_eq_true,decide_eq_true_eq,Bool.not_eq_true']
 constructor
 ·rintro ⟨r,⟨i,b,rfl⟩,rfl⟩;exact (lW o i).1 b
 ·intro h;exact ⟨(x,a.getD x []),⟨x,(lW o x).2 h,rfl⟩,rfl⟩
def iH (tos:List (List UInt8)):Bool:=decide (1≤tos.length) && decide (tos.length≤10) && (List.range tos.length).all (oG tos)
def dr (m:aX):Bool:=decide (m.time≤1000000000) && (m.frm.isEmpty || dH m.frm) && iH m.tos && decide (m.body.length≤1000)
def dq (r:List UInt8):Option (Nat×List Nat):=(rI r).bind fun x=>if decide (1≤x.2.length) && bF x.2 then some x else none
def bP (l:List UInt8):Option aX:=
 match l with
 | []=>none
 | c::r=>if c=77 then (nk r).bind fun m=>if dr m then some m else none else none
def dh (l:List UInt8):Option (Nat×List Nat):=
 match l with
 | []=>none
 | c::r=>if c=71 then dq r else none
def bS (l:List UInt8):Option (Nat×Nat×List Nat):=
 match l with
 | []=>none
 | c::r=>if c=70 then (fZ 4 r).bind fun a=>(dq a.2).bind fun x=>if a.1≤1000000000 then some (a.1,x.1,x.2) else none else none
def aa.outOf (S:aa) (K:Nat):List Bool:=(S.items.map (·.out)).getD K []
def bt (S:aa) (id:Nat) (ps:List Nat):Bool:=decide (1≤id) && decide (id≤S.items.length) && ps.all fun x=>decide (x < (S.outOf (id - 1)).length) && !((S.outOf (id - 1)).getD x false)
def aa.takesM (S:aa) (m:aX):Option aa:=if decide (m.id=S.items.length+1) && decide (S.time≤m.time) then some ⟨S.items++[⟨m,List.replicate m.tos.length false⟩],m.time⟩ else none
def aa.takesG (S:aa) (id:Nat) (ps:List Nat):Option aa:=if bt S id ps then some (S.outs (id - 1) ps) else none
def aa.takesF (S:aa) (T id:Nat) (ps:List Nat):Option aa:=if bt S id ps && decide (S.time≤T) then some ((S.outs (id - 1) ps).failed (S.mailOf (id - 1)) ps T) else none
theorem Bs (S:aa) (g:Nat) (f:List Nat):xZ S g f=(decide (1≤f.length) && bF f && bt S g f):=by
 unfold xZ bt aa.outOf;rw [FC,Bool.eq_iff_iff];simp only [Bool.and_eq_true]
 constructor
 ·rintro ⟨⟨⟨a,b⟩,c⟩,d,e⟩;exact ⟨⟨c,d⟩,⟨a,b⟩,e⟩
 ·rintro ⟨⟨c,d⟩,⟨a,b⟩,e⟩;exact ⟨⟨⟨a,b⟩,c⟩,d,e⟩
theorem Ds (n T:Nat) (m:aX):qp n T m=(dr m && (decide (m.id=n+1) && decide (T≤m.time))):=by
 unfold qp dr iH;rw [Bool.eq_iff_iff];simp only [Bool.and_eq_true]
 constructor
 ·rintro ⟨⟨⟨⟨⟨⟨⟨a,b⟩,c⟩,d⟩,e⟩,f⟩,g⟩,h⟩;exact ⟨⟨⟨⟨c,g⟩,⟨d,e⟩,h⟩,f⟩,a,b⟩
 ·rintro ⟨⟨⟨⟨c,g⟩,⟨d,e⟩,h⟩,f⟩,a,b⟩;exact ⟨⟨⟨⟨⟨⟨⟨a,b⟩,c⟩,d⟩,e⟩,f⟩,g⟩,h⟩
theorem DS (S:aa) (r:List UInt8):S.takes (77::r)=(bP (77::r)).bind S.takesM:=by
 have a:S.takes (77::r)=if qp S.items.length S.time (iL r) && (cA (iL r) == 77::r) then some ⟨S.items++[⟨iL r,List.replicate (iL r).tos.length false⟩],(iL r).time⟩ else none:=by
  unfold aa.takes;simp only;rw [if_pos trivial]
 have b:bP (77::r)=(nk r).bind fun m=>if dr m then some m else none:=by
  unfold bP;simp only;rw [if_pos trivial]
 rw [a,b,Fp,Ds]
 by_cases h:cA (iL r)=77::r
 ·rw [if_pos h,sb,h]
  cases c:dr (iL r) with
  | false=>simp
  | true=>
   simp only [Bool.true_and,beq_self_eq_true,Bool.and_true,if_true,sb];rfl
 ·rw [if_neg h];have:(cA (iL r) == 77::r)=false:=by simpa using h
  rw [this,Bool.and_false];rfl
theorem vT (S:aa) (r:List UInt8):S.takes (71::r)=(dh (71::r)).bind fun x=>S.takesG x.1 x.2:=by
 have a:dh (71::r)=dq r:=by
  unfold dh;simp only;rw [if_pos trivial]
 rw [JA,a,dq,xT,Bs];show (if decide (1≤(bI r).2.length) && bF (bI r).2 && bt S (bI r).1 (bI r).2 && (71::aM (bI r).1 (bI r).2 == 71::r) then some (S.outs ((bI r).1 - 1) (bI r).2) else none)=((if aM (bI r).1 (bI r).2=r then some (bI r) else none).bind fun x=>if decide (1≤x.2.length) && bF x.2 then some x else none).bind fun x=>S.takesG x.1 x.2
 by_cases h:aM (bI r).1 (bI r).2=r
 ·rw [if_pos h,sb,h]
  cases b:(decide (1≤(bI r).2.length) && bF (bI r).2) with
  | false=>simp
  | true=>
   simp only [Bool.true_and,beq_self_eq_true,Bool.and_true,if_true,sb];rfl
 ·rw [if_neg h];have:(71::aM (bI r).1 (bI r).2 == 71::r)=false:=by simpa using h
  rw [this,Bool.and_false];rfl
theorem qB (S:aa) (r:List UInt8):S.takes (70::r)=(bS (70::r)).bind fun x=>S.takesF x.1 x.2.1 x.2.2:=by
 have i:bS (70::r)=(fZ 4 r).bind fun a=>(dq a.2).bind fun x=>if a.1≤1000000000 then some (a.1,x.1,x.2) else none:=by
  unfold bS;simp only;rw [if_pos trivial]
 rw [Jz,i]
 by_cases f:4≤r.length
 ·have c:fZ 4 r=some (be (r.take 4),r.drop 4):=by unfold fZ;rw [if_pos f]
  have k:az 4 (be (r.take 4))=r.take 4:=by
   have:=tP (r.take 4)
   rwa [show (r.take 4).length=4 by rw [List.length_take];omega] at this
  rw [c,sb,k];obtain ⟨T,j⟩:∃T,be (r.take 4)=T:=⟨_,rfl⟩;obtain ⟨q,d⟩:∃q,r.drop 4=q:=⟨_,rfl⟩;have g:r=r.take 4++q:=by rw [←d,List.take_append_drop]
  rw [j,d,dq,xT,Bs]
  show (if decide (1≤(bI q).2.length) && bF (bI q).2 && bt S (bI q).1 (bI q).2 && decide (S.time≤T) && decide (T≤1000000000) && (70::(r.take 4++aM (bI q).1 (bI q).2) == 70::r) then some ((S.outs ((bI q).1 - 1) (bI q).2).failed (S.mailOf ((bI q).1 - 1)) (bI q).2 T) else none)=
   (((if aM (bI q).1 (bI q).2=q then some (bI q) else none).bind fun x=>if decide (1≤x.2.length) && bF x.2 then some x else none).bind fun x=>if T≤1000000000 then some (T,x.1,x.2) else none).bind fun x=>S.takesF x.1 x.2.1 x.2.2
  by_cases h:aM (bI q).1 (bI q).2=q
  ·have l:(70::(r.take 4++aM (bI q).1 (bI q).2) == 70::r)=true:=by rw [h,←g];simp
   rw [if_pos h,sb,l]
   cases m:(decide (1≤(bI q).2.length) && bF (bI q).2) with
   | false=>simp
   | true=>
    simp only [Bool.true_and,Bool.and_true,if_true,sb]
    by_cases b:T≤1000000000
    ·rw [if_pos b,sb,decide_eq_true b,Bool.and_true];rfl
    ·rw [if_neg b,decide_eq_false b,Bool.and_false];rfl
  ·rw [if_neg h]
   have:(70::(r.take 4++aM (bI q).1 (bI q).2) == 70::r)=false:=by
    rw [beq_eq_false_iff_ne];intro e;injection e with _ e;exact h (List.append_cancel_left (e.trans g))
   rw [this,Bool.and_false];rfl
 ·have c:fZ 4 r=none:=by unfold fZ;rw [if_neg f]
  rw [c]
  have:(70::(az 4 (be (r.take 4))++aM (bI (r.drop 4)).1 (bI (r.drop 4)).2) == 70::r)=false:=by
   rw [beq_eq_false_iff_ne];intro e;injection e with _ e;have:=congrArg List.length e;rw [List.length_append,bf] at this;omega
  rw [this,Bool.and_false];rfl
theorem mj (S:aa) (l:List UInt8):S.takes l=
  match bP l with
  | some m=>S.takesM m
  | none=>match dh l with
   | some x=>S.takesG x.1 x.2
   | none=>match bS l with
    | some x=>S.takesF x.1 x.2.1 x.2.2
    | none=>none:=by
 cases l with
 | nil=>rfl
 | cons c r=>
  by_cases a:c=77
  ·subst a;rw [DS]
   cases e:bP (77::r) with
   | some m=>rfl
   | none=>rfl
  ·have f:bP (c::r)=none:=by unfold bP;simp only;rw [if_neg a]
   rw [f]
   by_cases b:c=71
   ·subst b;rw [vT]
    cases e:dh (71::r) with
    | some m=>rfl
    | none=>rfl
   ·have g:dh (c::r)=none:=by unfold dh;simp only;rw [if_neg b]
    simp only [g]
    by_cases d:c=70
    ·subst d;rw [qB]
     cases e:bS (70::r) with
     | some m=>rfl
     | none=>rfl
    ·have h:bS (c::r)=none:=by unfold bS;simp only;rw [if_neg d]
     simp only [h];unfold aa.takes;simp only;rw [if_neg a,if_neg b,if_neg d]
theorem eh (l:List (List UInt8)) (k:Nat) (h:k < l.length):(aB l)[k]? =some (.string (bs l[k])):=by simp [aB,h]
theorem qi {l:List (List UInt8)} {t:List UInt8} {k:Nat} (b:k < l.length) (h:t ∉ l.take k) (c:¬t=l[k]):t ∉ l.take (k+1):=by
 rw [List.take_succ_eq_append_getElem b,List.mem_append,List.mem_singleton];rintro (a | a)
 ·exact h a
 ·exact c a
theorem zf (l:List (List UInt8)) (t:List UInt8) (v:Value) (w:World) (h:bg w v l.length 1 (aB l)) (z:l.length≤255):
  Calls Tryz.prog 237 #[v,.string (bs t)] w fun e x=>∃r:Int,e= .returned (.int .i64 r)∧(-1≤r∧r≤255)∧(0≤r ↔ t∈l)∧w=x:=by
 obtain ⟨a,q,rfl,n⟩:=h.one;have p:=Lib.hid n;clear n h;go_enter Tryz.func237,Tryz.ntmps237;go_wp2_with fail
 go_loop [8] (fun i=>∃k:Nat,k≤l.length∧i= .int .i64 k∧Hid (t ∉ l.take k)) (fun i=>l.length - (intOf i).toNat)
 case atStart=>exact ⟨0,Nat.zero_le _,rfl,Lib.hid (by simp)⟩
 case round=>
  obtain ⟨k,y,rfl,m⟩:=hrel
  by_cases c:k < l.length
  ·have o:(k:Int) < (l.length:Int):=by omega
   obtain ⟨b,u,rfl,_,d⟩:=p.out k c;rw [eh l k c] at d
   by_cases f:t=l[k]
   ·have s:((bs t).toList == (bs l[k]).toList)=true:=by rw [tS];simpa using f
    have g:Hid (t∈l):=Lib.hid (by rw [f];exact List.getElem_mem c);clear f;go_wp2_with fail
    go_ret;exact ⟨_,rfl,by omega,⟨fun _=>g.out,fun _=>by omega⟩,rfl⟩
   ·have s:((bs t).toList == (bs l[k]).toList)=false:=by rw [tS];simpa using f
    have g:=Lib.hid (qi c m.out f);clear f;go_wp2_with fail
    exact ⟨⟨k+1,by omega,by go_num,g⟩,by simp [intOf];omega⟩
  ·have j:k=l.length:=by omega
   subst j
   have g:Hid (t ∉ l):=Lib.hid (by
    have:=m.out
    rwa [List.take_length] at this)
   go_wp2_with fail
   go_ret;exact ⟨_,rfl,by omega,⟨fun h=>by omega,fun h=>absurd h g.out⟩,rfl⟩
theorem mw (l:List (List UInt8)) (t:List UInt8) (v:Value) (w:World) (h:bg w v l.length 1 (aB l)) (g:l.length≤255):
  Calls Tryz.prog 201 #[v,.string (bs t)] w fun e i=>e= .returned (.bool (l.contains t))∧w=i:=by
 have c:=zf l t v w h g;obtain ⟨a,f,rfl,_⟩:=h.one;clear h;go_enter Tryz.func201,Tryz.ntmps201;go_wp2_with fail
 refine c.mono ?_;rintro e k ⟨r,rfl,j,b,rfl⟩;have d:Hid (decide (0≤r)=l.contains t):=Lib.hid (by rw [Bool.eq_iff_iff,decide_eq_true_iff,List.contains_iff_mem];exact b);clear b c;go_wp2_with fail
 go_ret;exact ⟨cG d.out,rfl⟩
theorem CI (l:List (List UInt8)) (k:Nat) (h:k < l.length):yW l k= !((l.take k).contains l[k]):=by
 unfold yW;rw [Bool.eq_iff_iff,List.all_eq_true,Bool.not_eq_true',←Bool.not_eq_true,List.contains_iff_mem];have b:l.getD k []=l[k]:=by rw [List.getD_eq_getElem?_getD,List.getElem?_eq_getElem h];rfl
 constructor
 ·intro c d;obtain ⟨j,a,e⟩:=List.getElem_of_mem d;rw [List.length_take] at a;have:=c j (List.mem_range.2 (by omega));rw [b,List.getD_eq_getElem?_getD,List.getElem?_eq_getElem (by omega:j < l.length)] at this;rw [List.getElem_take] at e;simp [e] at this
 ·intro f j a;have a:=List.mem_range.1 a;rw [b,List.getD_eq_getElem?_getD,List.getElem?_eq_getElem (by omega:j < l.length)];simp only [Option.getD_some,Bool.not_eq_true',beq_eq_false_iff_ne,ne_eq];intro e;exact f (by rw [←e];exact List.mem_take_iff_getElem.2 ⟨j,by omega,rfl⟩)
theorem bg.part {w:World} {a:Option Addr} {n c:Nat} {l:List (List UInt8)} (h:bg w (.slice a n c) l.length 1 (aB l)) (k:Nat) (r:k≤l.length):bg w (.slice a k c) (l.take k).length 1 (aB (l.take k)):=by
 have f:(l.take k).length=k:=by rw [List.length_take];omega
 refine ⟨by simp [aB],?_⟩
 rw [f]
 rcases h.2 with ⟨p,o,d,e⟩ | ⟨b,g,d,e,m,i⟩
 ·have:k=0:=by omega
  subst this;exact .inl ⟨rfl,_,_,rfl⟩
 ·injection e with e1 e2 e3;subst e1 e3;refine .inr ⟨b,g,_,rfl,by omega,fun j q=>?_⟩
  rw [i j (by omega)];simp [aB,show j < k by omega]
theorem vB (l:List (List UInt8)) (v:Value) (m:Int) (w:World) (h:bg w v l.length 1 (aB l)) (hl:l.length≤255) (U:∀t∈l,t.length≤255) (T:w.cell? ⟨0,0,none⟩=some (.int .i64 m)):
  Calls Tryz.prog 219 #[v] w fun e r=>e= .returned (.bool (iH l))∧Below w.heap.size w r:=by
 obtain ⟨a,x,rfl,Q⟩:=h.one;have R:=h.cap;have V:=Lib.hid Q;have W:=Lib.hid h;have X:=Lib.hid U;have Y:=aC T;clear Q h U
 by_cases O:1≤l.length
 ·by_cases P:l.length≤10
  ·have s:Hid (iH l=(List.range l.length).all (oG l)):=Lib.hid (by unfold iH;rw [decide_eq_true O,decide_eq_true P];rfl);have y:decide ((l.length:Int) < 1)=false:=decide_eq_false (by omega);have H:decide (10 < (l.length:Int))=false:=decide_eq_false (by omega);go_enter Tryz.func219,Tryz.ntmps219;go_wp2_with fail
   go_loopw [15] (fun i r=>∃k:Nat,k≤l.length∧i= .int .i64 k∧Hid (∀j,j < k→oG l j=true)∧Hid (Below w.heap.size w r)) (fun i _=>l.length - (intOf i).toNat)
   case atStart=>exact ⟨0,Nat.zero_le _,rfl,Lib.hid (fun j I=>by omega),Lib.hid (Below.refl _ _)⟩
   case round=>
    obtain ⟨k,Z,rfl,M,p⟩:=hrel
    by_cases g:k < l.length
    ·have S:(k:Int) < (l.length:Int):=by omega
     obtain ⟨b,A,rfl,F,f⟩:=V.out k g;rw [eh l k g] at f;have G:wr.cell? ⟨b,A+k,none⟩=some (.string (bs l[k])):=(p.out.cell F).trans f;have K:=X.out l[k] (List.getElem_mem g)
     have n:Hid (oG l k=(dH l[k] && !((l.take k).contains l[k]))):=Lib.hid (by
      unfold oG
      rw [CI l k g,List.getD_eq_getElem?_getD,List.getElem?_eq_getElem g];rfl)
     obtain ⟨t,N⟩:∃t,l[k]=t:=⟨_,rfl⟩;rw [N] at G K n;have z:wr.cell? ⟨0,0,none⟩=some (.int .i64 m):=(p.out.cell Y).trans T;have u:=Lib.hid (um t m wr (by omega) z);have q:Hid (∀r,Below w.heap.size w r→Calls Tryz.prog 201 #[.slice (some ⟨b,A,none⟩) k x,.string (bs t)] r fun e L=>e= .returned (.bool ((l.take k).contains t))∧r=L):=Lib.hid (fun r E=>mw (l.take k) t _ r ((W.out.below E).part k Z) (by rw [List.length_take];omega));have a0:(0:Int)≤(k:Int):=by omega
     have a1:(k:Int)≤(x:Int):=by omega
     clear N f z
     cases C:dH t with
     | false=>
      have o:Hid ((List.range l.length).all (oG l)=false):=Lib.hid (qG g (by rw [n.out,C];rfl));rw [C] at u;go_wp2_with fail
      refine u.out.mono ?_;rintro e B ⟨rfl,c⟩;have d:=Lib.hid (p.out.trans (c.mono p.out.size));clear c;go_wp2_with fail
      go_ret;exact ⟨cG (by rw [s.out,o.out]),d.out⟩
     | true=>
      rw [C] at u n
      cases D:(l.take k).contains t with
      | true=>
       have o:Hid ((List.range l.length).all (oG l)=false):=Lib.hid (qG g (by rw [n.out,D];rfl));rw [D] at q;go_wp2_with fail
       refine u.out.mono ?_;rintro e B ⟨rfl,c⟩;have d:=Lib.hid (p.out.trans (c.mono p.out.size));clear c;go_wp2_with fail
       refine (q.out B d.out).mono ?_;rintro e w2 ⟨rfl,rfl⟩;go_wp2_with fail
       go_ret;exact ⟨cG (by rw [s.out,o.out]),d.out⟩
      | false=>
       rw [D] at q n;go_wp2_with fail
       refine u.out.mono ?_;rintro e B ⟨rfl,c⟩;have d:=Lib.hid (p.out.trans (c.mono p.out.size));clear c;go_wp2_with fail
       refine (q.out B d.out).mono ?_;rintro e w2 ⟨rfl,rfl⟩;go_wp2_with fail
       refine ⟨⟨k+1,by omega,by go_num,Lib.hid (fun j I=>?_),d⟩,by simp [intOf];omega⟩
       rcases Nat.lt_or_ge j k with h | h
       ·exact M.out j h
       ·have:j=k:=by omega
        subst this;rw [n.out];rfl
    ·have J:k=l.length:=by omega
     subst J;have o:Hid ((List.range l.length).all (oG l)=true):=Lib.hid (List.all_eq_true.2 (fun j I=>M.out j (List.mem_range.1 I)));go_wp2_with fail
     go_ret;exact ⟨cG (by rw [s.out,o.out]),p.out⟩
  ·have s:Hid (iH l=false):=Lib.hid (by unfold iH;rw [decide_eq_false P];simp);have y:decide ((l.length:Int) < 1)=false:=decide_eq_false (by omega);have H:decide (10 < (l.length:Int))=true:=decide_eq_true (by omega);go_enter Tryz.func219,Tryz.ntmps219;go_wp2_with fail
   go_ret;exact ⟨cG s.out.symm,Below.refl _ _⟩
 ·have s:Hid (iH l=false):=Lib.hid (by unfold iH;rw [decide_eq_false O];simp);have y:decide ((l.length:Int) < 1)=true:=decide_eq_true (by omega);go_enter Tryz.func219,Tryz.ntmps219;go_wp2_with fail
  go_ret;exact ⟨cG s.out.symm,Below.refl _ _⟩
theorem Bf (H:aX) (v:Value) (m:Int) (w:World) (h:bg w v H.tos.length 1 (aB H.tos)) (hz:dQ H) (hm:w.cell? ⟨0,0,none⟩=some (.int .i64 m)):
  Calls Tryz.prog 165 #[.agg (aY H v)] w fun e q=>e= .returned (.bool (dr H))∧Below w.heap.size w q:=by
 obtain ⟨D,c,f,g,d⟩:=H;obtain ⟨z1,z2,z3,z4,X,z6⟩:=hz;simp only at h z1 z2 z3 z4 X z6;obtain ⟨a,o,rfl,_⟩:=h.one;simp only [aY];have h0:=aC hm;have HH:=Lib.hid h;have I:=Lib.hid X;have s:Hid (dr ⟨D,c,f,g,d⟩=(decide (c≤1000000000) && (f.isEmpty || dH f) && iH g && decide (d.length≤1000))):=Lib.hid rfl;obtain ⟨A,y⟩:∃A:World,w.alloc (.cells #[.int .i64 D,.int .i64 c,.string (bs f),.slice a g.length o,.string (bs d)] 45)=A:=⟨_,rfl⟩;have J:Below w.heap.size w A:=by rw [←y];exact (Below.refl _ _).alloc (Nat.le_refl _) _
 have M:A.heap.size=w.heap.size+1:=by rw [←y];simp
 have hx:A.heap[w.heap.size]? =some (.cells #[.int .i64 D,.int .i64 c,.string (bs f),.slice a g.length o,.string (bs d)] 45 (0,0)):=by rw [←y];exact heap_alloc_new w _
 have R:Hid (∀q,Below (w.heap.size+1) A q→Below w.heap.size w q∧q.cell? ⟨w.heap.size,1,none⟩=some (.int .i64 c)∧q.cell? ⟨w.heap.size,2,none⟩=some (.string (bs f))∧q.cell? ⟨w.heap.size,3,none⟩=some (.slice a g.length o)∧q.cell? ⟨w.heap.size,4,none⟩=some (.string (bs d))∧q.cell? ⟨0,0,none⟩=some (.int .i64 m)∧bg q (.slice a g.length o) g.length 1 (aB g)):=Lib.hid (fun q Z=>by
  have F:Below w.heap.size w q:=J.trans (Z.mono (by omega));have O:q.heap[w.heap.size]? =_:=(Z.block w.heap.size (by omega)).trans hx
  exact ⟨F,by rw [Lib.cell_of_heap O];rfl,by rw [Lib.cell_of_heap O];rfl,by rw [Lib.cell_of_heap O];rfl,by rw [Lib.cell_of_heap O];rfl,(F.cell h0).trans hm,HH.out.below F⟩)
 obtain ⟨Y,x1,x2,x3,x4,L,_⟩:=R.out A (Below.refl _ _);have sF:=aG f;have sB:=aG d;have x:=Lib.hid y;have k:=Lib.hid M;have r:=Lib.hid Y;clear h X J hx y M Y;have hd:∀b:Bool,decide ((c:Int)≤1000000000)=b→b=decide (c≤1000000000):=fun b h=>by rw [←h,Bool.eq_iff_iff];simp;omega
 cases S:decide ((c:Int)≤1000000000) with
 | false=>
  have t:Hid (dr ⟨D,c,f,g,d⟩=false):=Lib.hid (by rw [s.out,decide_eq_false (show ¬c≤1000000000 by simp at S;omega)];rfl);clear hd;go_enter Tryz.func165,Tryz.ntmps165;go_wp2_with fail
  rw [x.out];go_ret;exact ⟨cG t.out.symm,r.out⟩
 | true=>
  clear hd
  by_cases E:f=[]
  ·have K:(bs f).toList=[]:=by rw [E,Lib.toList_data];rfl
   have T:(bs f).toList.isEmpty=true:=by rw [K];rfl
   have z:f.isEmpty=true:=by rw [E];rfl
   have C:=Lib.hid z;clear E z;have j:=Lib.hid (vB g (.slice a g.length o) m A (R.out A (by rw [←k.out];exact Below.refl _ _)).2.2.2.2.2.2 (by omega) I.out L)
   cases p:iH g with
   | false=>
    have t:Hid (dr ⟨D,c,f,g,d⟩=false):=Lib.hid (by rw [s.out,p];simp);rw [p] at j;clear p s;go_enter Tryz.func165,Tryz.ntmps165;go_wp2_with fail
    rw [x.out];refine j.out.mono ?_;rintro e N ⟨rfl,i⟩;have l:=Lib.hid (r.out.trans (i.mono (by rw [k.out];omega)));clear i;go_wp2_with fail
    go_ret;exact ⟨cG t.out.symm,l.out⟩
   | true=>
    have t:Hid (dr ⟨D,c,f,g,d⟩=decide (d.length≤1000)):=Lib.hid (by rw [s.out,p,decide_eq_true (show c≤1000000000 by simp at S;omega),C.out];simp);rw [p] at j;clear p s;go_enter Tryz.func165,Tryz.ntmps165;go_wp2_with fail
    rw [x.out];refine j.out.mono ?_;rintro e N ⟨rfl,i⟩;have y4:N.cell? ⟨w.heap.size,4,none⟩=some (.string (bs d)):=(i.cell (by show w.heap.size < _;rw [k.out];omega)).trans x4;have l:=Lib.hid (r.out.trans (i.mono (by rw [k.out];omega)));clear i;go_wp2_with fail
    go_ret;refine ⟨cG ?_,l.out⟩;rw [t.out,Bool.eq_iff_iff];simp;omega
  ·have K:¬(bs f).toList=[]:=by rw [Lib.toList_data,aI];exact E
   have T:(bs f).toList.isEmpty=false:=by rw [Lib.toList_data,aI];simpa using E
   have z:f.isEmpty=false:=by simpa using E
   have C:=Lib.hid z;have u:=Lib.hid (um f m A (by omega) L);clear E z
   cases G:dH f with
   | false=>
    have t:Hid (dr ⟨D,c,f,g,d⟩=false):=Lib.hid (by rw [s.out,G,C.out];simp);rw [G] at u;clear G s;go_enter Tryz.func165,Tryz.ntmps165;go_wp2_with fail
    rw [x.out];refine u.out.mono ?_;rintro e P ⟨rfl,n⟩;have B:=Lib.hid (r.out.trans (n.mono (by rw [k.out];omega)));clear n;go_wp2_with fail
    go_ret;exact ⟨cG t.out.symm,B.out⟩
   | true=>
    rw [G] at u;have Q:=Lib.hid G;clear G;go_enter Tryz.func165,Tryz.ntmps165;go_wp2_with fail
    rw [x.out];refine u.out.mono ?_;rintro e P ⟨rfl,n⟩;have B:=Lib.hid (r.out.trans (n.mono (by rw [k.out];omega)));obtain ⟨_,y1,y2,y3,W,U,V⟩:=R.out P (by rw [←k.out];exact n);have a0:w.heap.size+1≤P.heap.size:=by have:=n.size;rw [k.out] at this;exact this
    clear n x1 x2 x3 x4 u;have j:=Lib.hid (vB g (.slice a g.length o) m P V (by omega) I.out U)
    cases p:iH g with
    | false=>
     have t:Hid (dr ⟨D,c,f,g,d⟩=false):=Lib.hid (by rw [s.out,p];simp);rw [p] at j;clear p s;go_wp2_with fail
     refine j.out.mono ?_;rintro e N ⟨rfl,i⟩;have l:=Lib.hid (B.out.trans (i.mono (by omega)));clear i;go_wp2_with fail
     go_ret;exact ⟨cG t.out.symm,l.out⟩
    | true=>
     have t:Hid (dr ⟨D,c,f,g,d⟩=decide (d.length≤1000)):=Lib.hid (by rw [s.out,p,decide_eq_true (show c≤1000000000 by simp at S;omega),C.out,Q.out];simp);rw [p] at j;clear p s;go_wp2_with fail
     refine j.out.mono ?_;rintro e N ⟨rfl,i⟩;have y4:N.cell? ⟨w.heap.size,4,none⟩=some (.string (bs d)):=(i.cell (by show w.heap.size < _;omega)).trans W;have l:=Lib.hid (B.out.trans (i.mono (by omega)));clear i;go_wp2_with fail
     go_ret;refine ⟨cG ?_,l.out⟩;rw [t.out,Bool.eq_iff_iff];simp;omega
def fH.now (x:fH):aX:=⟨x.m.id,x.m.time,x.m.frm,(iW x.out x.out.length).map fun i=>x.m.tos.getD i [],x.m.body⟩
def gA (l:List fH):List aX:=(l.map fH.now).filter fun m=> !m.tos.isEmpty
def fJ (l:List (aX×Value)):List Value:=l.flatMap fun x=>(aY x.1 x.2).toList
theorem qa (l:List (aX×Value)) (x:aX×Value):fJ (l++[x])=fJ l++(aY x.1 x.2).toList:=by
 simp [fJ]
def nL (w:World) (v:Value) (ms:List aX):Prop:=
 ∃l:List (aX×Value),l.map (·.1)=ms∧bg w v l.length 5 (fJ l)∧∀x∈l,bg w x.2 x.1.tos.length 1 (aB x.1.tos)
def lE (base:Nat) (w:World) (v:Value) (l:List (aX×Value)):Prop:=
 w.ownsRow base 45 5 v l.length (fJ l)∧∀x∈l,w.ownsRow base 9 1 x.2 x.1.tos.length (aB x.1.tos)
theorem xL:(Tryz.prog.info? 45).map (fun i=>(i.zero,i.size,i.bytes))=some (some (.agg #[.int .i64 0,.int .i64 0,.string ⟨#[]⟩,.slice none 0 0,.string ⟨#[]⟩]),5,72):=by kernel_rfl
theorem aF {w:World} {a n f:Nat} {e:TypeId} {v:Value} {i:List Value} (h:w.ownsRow a e f v n i):bg w v n f i:=by
 refine ⟨h.1,?_⟩
 rcases h.2 with ⟨b,m⟩ | ⟨g,k,l,b,_,o,c,_,_,d⟩
 ·exact .inl ⟨m,none,0,b⟩
 ·refine .inr ⟨g,0,k,b,c,fun j p=>?_⟩;rw [Nat.zero_add,Lib.cell_of_heap o,←Array.getElem?_toList,←List.getElem?_take_of_lt p,d]
theorem lE.at {a:Nat} {w:World} {v:Value} {l:List (aX×Value)} (h:lE a w v l):nL w v (l.map (·.1)):=
 ⟨l,rfl,aF h.1,fun x b=>aF (h.2 x b)⟩
theorem lE.touch {a:Nat} {w d:World} {v:Value} {l:List (aX×Value)} {b:List TypeId} (h:lE a w v l) (c:cJ b w d) (e:45 ∉ b) (f:9 ∉ b):lE a d v l:=
 ⟨dG c e h.1,fun x g=>dG c f (h.2 x g)⟩
theorem FG {z:Nat} {y c b:World} {v w vt:Value} {rows:List (aX×Value)} {m:aX} {o:Obj} (E:∀x∈rows,c.ownsRow z 9 1 x.2 x.1.tos.length (aB x.1.tos)) (r:c.ownsRow z 45 5 v rows.length (fJ rows)) (B:c.ownsRow z 9 1 vt m.tos.length (aB m.tos)) (A:Below z y c) (H:z≤c.heap.size)
  (k:b.ownsRow z 45 5 w (rows.length+1) (fJ rows++(aY m vt).toList)) (a:(c.alloc o).grownBy b v.ownBlock):lE z b w (rows++[(m,vt)])∧Below z y b:=by
 have i:∀(u:Value) (n:Nat) (q:List Value),c.ownsRow z 9 1 u n q→b.ownsRow z 9 1 u n q:=fun u n q h=>by
  refine (h.alloc o).kept a ?_
  rcases h.2 with ⟨e,_⟩ | ⟨g,C,D,e,_,F,_⟩
  ·subst e;exact .inl rfl
  ·refine .inr fun d=>?_
   rcases r.2 with ⟨l,_⟩ | ⟨I,s,t,l,_,p,_⟩
   ·rw [l,e] at d;cases d
   ·rw [l,e] at d;injection d with d;exact DQ F p (by decide) d
 refine ⟨⟨?_,fun x f=>?_⟩,?_⟩
 ·rw [List.length_append,qa];exact k
 ·rcases List.mem_append.1 f with f | f
  ·exact i _ _ _ (E x f)
  ·simp only [List.mem_singleton] at f;subst f;exact i _ _ _ B
 ·exact (A.alloc H o).grown a (by simp;omega) (fun j G=>(r.lt j G).1)
end Go.Proofs.YtofpegbpgkkgkaaGreatDoor
