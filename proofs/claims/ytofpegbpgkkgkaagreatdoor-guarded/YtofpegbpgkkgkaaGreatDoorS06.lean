import Derived.Test.YtofpegbpgkkgkaaGreatDoorS05
import Derived.Test.YtofpegbpgkkgkaaGreatDoorS03
namespace Go.Proofs.YtofpegbpgkkgkaaGreatDoor
set_option maxHeartbeats 8000000
set_option maxRecDepth 1000000
open Go.RowKit
def iG (l:List UInt8):List UInt8×Bool:=((eh l).1++64::(eh l).2.1,(eh l).2.2)
theorem vm (l:List UInt8):(eh l).1.length≤20∧(eh l).2.1.length≤40:=by
 unfold eh
 split
 ·rename_i h
  simp only [Bool.and_eq_true] at h;obtain ⟨a,b⟩:=h;simp only [pa,iK,Bool.and_eq_true,decide_eq_true_eq] at a b;simp only [Lib.toLowerA,List.length_map];omega
 ·simp
def dx (l:List UInt8):Bool:=(iG l).2 && ((iG l).1 == l)
def xt (l:List (List UInt8)) (k:Nat):Bool:=(List.range k).all fun j=> !(l.getD j [] == l.getD k [])
def nJ (l:List (List UInt8)) (k:Nat):Bool:=dx (l.getD k []) && xt l k
def pt (n T:Nat) (m:aR):Bool:=decide (m.id=n+1) && decide (T≤m.time) && decide (m.time≤1000000000) && decide (1≤m.tos.length) && decide (m.tos.length≤10) && decide (m.body.length≤1000) && (m.frm.isEmpty || dx m.frm) && (List.range m.tos.length).all (nJ m.tos)
theorem pG {n k:Nat} {q:Nat→Bool} (h:k < n) (b:q k=false):(List.range n).all q=false:=by
 cases a:(List.range n).all q with
 | false=>rfl
 | true=>
  have:=List.all_eq_true.1 a k (List.mem_range.2 h);rw [b] at this;cases this
theorem EU {k:Nat} {q:Nat→Bool}:(List.range (k+1)).all q=((List.range k).all q && q k):=by
 rw [List.range_succ,List.all_append];simp
theorem nR (a b:List UInt8):((bs a).toList == (bs b).toList)=(a == b):=by
 rw [Lib.toList_data,Lib.toList_data,aQ,aQ]
theorem aH.drew {b:Nat} {w a:World} (h:aH b w a):aH b w a.drew:=⟨h.1,h.2,h.3.trans ⟨rfl,rfl,rfl⟩⟩
theorem cE.drew {a:List TypeId} {w b:World} (h:cE a w b):cE a w b.drew:=⟨h.1,h.2,h.3.trans ⟨rfl,rfl,rfl⟩⟩
theorem Co {w:World} {a b:Nat} {A B:Array Value} {t u:TypeId} {y z:Nat×Nat} (d:w.heap[a]? =some (.cells A t y)) (c:w.heap[b]? =some (.cells B u z)) (h:t≠u):a≠b:=by
 intro e;subst e;rw [d] at c;injection c with c;injection c with _ c _;exact h c
def jz (o:List Bool) (l:List Nat):List Bool:=l.foldl (fun o x=>o.set x true) o
theorem tq (o:List Bool) (l:List Nat):(jz o l).length=o.length:=by
 induction l generalizing o with
 | nil=>rfl
 | cons x l ih=>show (jz (o.set x true) l).length=_;rw [ih,List.length_set]
def aa.outs (S:aa) (K:Nat) (ps:List Nat):aa:=⟨S.items.modify K (fun x=>⟨x.m,jz x.out ps⟩),S.time⟩
def bB (l:List UInt8):Nat×List Nat:=(be (l.take 4),ky (be ((l.drop 4).take 1)) (l.drop 5))
def aa.mailOf (S:aa) (K:Nat):aR:=((S.items[K]?).map (·.m)).getD ⟨0,0,[],[],[]⟩
def aa.takes (S:aa) (l:List UInt8):Option aa:=
 match l with
 | []=>none
 | c::r=>
  if c=77 then
   if pt S.items.length S.time (ig r) && (dd (ig r) == l) then some ⟨S.items++[⟨ig r,List.replicate (ig r).tos.length false⟩],(ig r).time⟩ else none
  else if c=71 then
   if wh S (bB r).1 (bB r).2 && (71::aY (bB r).1 (bB r).2 == l) then some (S.outs ((bB r).1 - 1) (bB r).2) else none
  else if c=70 then
   if wh S (bB (r.drop 4)).1 (bB (r.drop 4)).2 && decide (S.time≤be (r.take 4)) && decide (be (r.take 4)≤1000000000) && (70::(aB 4 (be (r.take 4))++aY (bB (r.drop 4)).1 (bB (r.drop 4)).2) == l) then
    some ((S.outs ((bB (r.drop 4)).1 - 1) (bB (r.drop 4)).2).failed (S.mailOf ((bB (r.drop 4)).1 - 1)) (bB (r.drop 4)).2 (be (r.take 4)))
   else none
  else none
theorem Hq (S:aa) (r:List UInt8):S.takes (71::r)=if wh S (bB r).1 (bB r).2 && (71::aY (bB r).1 (bB r).2 == 71::r) then some (S.outs ((bB r).1 - 1) (bB r).2) else none:=by
 unfold aa.takes;simp only;rw [if_neg (by decide),if_pos trivial]
theorem Hp (S:aa) (r:List UInt8):S.takes (70::r)=if wh S (bB (r.drop 4)).1 (bB (r.drop 4)).2 && decide (S.time≤be (r.take 4)) && decide (be (r.take 4)≤1000000000) && (70::(aB 4 (be (r.take 4))++aY (bB (r.drop 4)).1 (bB (r.drop 4)).2) == 70::r) then some ((S.outs ((bB (r.drop 4)).1 - 1) (bB (r.drop 4)).2).failed (S.mailOf ((bB (r.drop 4)).1 - 1)) (bB (r.drop 4)).2 (be (r.take 4))) else none:=by
 unfold aa.takes;simp only;rw [if_neg (by decide),if_neg (by decide),if_pos trivial]
theorem tE {w:World} {a n:Nat} {e:TypeId} {v:Value} {f:List Value} (h:w.ownsRow a e 1 v n f):aZ w v n 1 f:=by
 refine ⟨h.1,?_⟩
 rcases h.2 with ⟨b,l⟩ | ⟨g,i,k,b,_,m,c,_,_,d⟩
 ·exact .inl ⟨l,none,0,b⟩
 ·refine .inr ⟨g,0,i,b,c,fun j o=>?_⟩;rw [Nat.zero_add,Lib.cell_of_heap m,←Array.getElem?_toList,←List.getElem?_take_of_lt o,d]
theorem pM (a b:List UInt8):((bs a).toList == b)=(a == b):=by rw [Lib.toList_data,aQ]
def dM (l:List UInt8):List UInt8:=if (iG l).2 then (iG l).1 else []
theorem nP (l:List UInt8) (m:Int) (w:World) (q:l.length≤140737488355328) (n:w.cell? ⟨0,0,none⟩=some (.int .i64 m)):
  Calls Tryz.prog 210 #[.string (bs l)] w fun e t=>e= .returned (.tuple #[.string (bs (dM l)),.bool (iG l).2])∧Below w.heap.size w t:=by
 have a:=tA (bs l) m w (by rw [aI];exact q) n;go_enter Tryz.func210,Tryz.ntmps210;go_wp2_with fail
 refine a.mono ?_;rintro e u ⟨x,y,f,rfl,h,k⟩;obtain ⟨c,rfl⟩:∃c,x=bs c:=⟨_,(CI x).symm⟩;obtain ⟨d,rfl⟩:∃d,y=bs d:=⟨_,(CI y).symm⟩;rw [aQ,aQ,aQ] at h;have b:=vm l;rw [h] at b;obtain ⟨o,p⟩:=b;have r:(bs c).size≤20:=by rw [aI];exact o
 have s:(bs d).size≤40:=by rw [aI];exact p
 have g:Hid (iG l=(c++64::d,f)):=Lib.hid (by unfold iG;rw [h]);have j:=Lib.hid k;clear h k o p a n
 cases f with
 | false=>
  have i:Hid (dM l=[]):=Lib.hid (by unfold dM;rw [g.out];rfl);go_wp2_with fail
  go_ret2
  exact ⟨by rw [i.out,g.out];rfl,j.out⟩
 | true=>
  have i:Hid (dM l=c++64::d):=Lib.hid (by unfold dM;rw [g.out];rfl);go_wp2_with fail
  go_ret2
  refine ⟨?_,j.out⟩;rw [show (⟨#[64]⟩:ByteArray)=bs [64] from rfl,ca,ca,i.out,g.out];simp
theorem sO (l:List UInt8) (m:Int) (w:World) (j:l.length≤140737488355328) (i:w.cell? ⟨0,0,none⟩=some (.int .i64 m)):
  Calls Tryz.prog 218 #[.string (bs l)] w fun e k=>e= .returned (.bool (dx l))∧Below w.heap.size w k:=by
 have a:=nP l m w j i
 have b:Hid (dx l=((iG l).2 && (dM l == l))):=Lib.hid (by
  unfold dx dM
  cases (iG l).2 <;> rfl)
 obtain ⟨K,d⟩:∃K,dM l=K:=⟨_,rfl⟩;obtain ⟨f,g⟩:∃f,(iG l).2=f:=⟨_,rfl⟩;rw [d,g] at a b;clear d g;go_enter Tryz.func218,Tryz.ntmps218;go_wp2_with fail
 refine a.mono ?_;rintro e n ⟨rfl,h⟩;have c:=Lib.hid h;clear h a i
 cases f with
 | false=>
  go_wp2_with fail
  go_ret;exact ⟨cA (by rw [b.out];rfl),c.out⟩
 | true=>
  go_wp2_with fail
  go_ret;refine ⟨cA ?_,c.out⟩;rw [nR,b.out];simp
def kz (l:List Nat) (i:Nat):Bool:=decide (i=0) || decide (l.getD (i - 1) 0 < l.getD i 0)
def bC (l:List Nat):Bool:=(List.range l.length).all (kz l)
theorem xD (v:Value) (l:List Nat) (w:World) (h:aZ w v l.length 1 (aX l)) (O:l.length≤255):
  Calls Tryz.prog 221 #[v] w fun e r=>e= .returned (.bool (bC l))∧∃n,r=w.drewN n:=by
 obtain ⟨a,G,rfl,_⟩:=h.one;have s:=Lib.hid h;have I:(l.length:Int)≤255:=by omega
 clear h;go_enter Tryz.func221,Tryz.ntmps221;go_wp2_with fail
 go_loopw [3] (fun i r=>∃j q:Nat,(j+1≤l.length∨j=0)∧i= .int .i64 ((j:Int)+1)∧Hid ((List.range (j+1)).all (kz l)=true)∧r=w.drewN q) (fun i _=>l.length - (intOf i).toNat)
 case atStart=>exact ⟨0,0,.inr rfl,rfl,Lib.hid (by simp [kz]),rfl⟩
 case round=>
  obtain ⟨j,q,g,rfl,o,rfl⟩:=hrel
  by_cases c:j+1 < l.length
  ·have D:(j:Int)+1 < (l.length:Int):=by omega
   have d:j < l.length:=by omega
   have C:(j:Int) < (l.length:Int):=by omega
   have J:IntKind.i64.wrap ((j:Int)+1 - 1)=(j:Int):=by rw [IntKind.wrap_i64];omega
   have K:IntKind.i64.wrap (j:Int)=(j:Int):=by rw [IntKind.wrap_i64];omega
   obtain ⟨b,m,rfl,_,B⟩:=s.out.elem j d;obtain ⟨L,E,e,_,f⟩:=s.out.elem (j+1) c;injection e with e;injection e with e1 e2;subst e1 e2;have M:w.cell? ⟨b,m+j,none⟩=some (.int .i64 (l[j]:Int)):=by rw [B];simp [aX,d]
   have N:w.cell? ⟨b,m+(j+1),none⟩=some (.int .i64 (l[j+1]:Int)):=by rw [f];simp [aX,c]
   have u:=Lib.hid (show l.getD j 0=l[j] by rw [List.getD_eq_getElem?_getD,List.getElem?_eq_getElem d];rfl);have z:=Lib.hid (show l.getD (j+1) 0=l[j+1] by rw [List.getD_eq_getElem?_getD,List.getElem?_eq_getElem c];rfl)
   generalize l[j]=x at *
   generalize l[j+1]=y at *
   clear B f g
   cases t:decide (y≤x) with
   | true=>
    have k:y≤x:=by simpa using t
    have p:Hid (bC l=false):=Lib.hid (pG c (by unfold kz;rw [z.out,show j+1 - 1=j by omega,u.out,decide_eq_false (show ¬x < y by omega)];rfl));go_wp2_with fail
    go_quiet (fail)
    go_wp2_with fail
    go_ret;exact ⟨by rw [p.out];rfl,_,by simp;rfl⟩
   | false=>
    have k:x < y:=by simpa using t
    have F:Hid ((List.range (j+1+1)).all (kz l)=true):=Lib.hid (by rw [EU,o.out];unfold kz;rw [z.out,show j+1 - 1=j by omega,u.out,decide_eq_true k];simp);go_wp2_with fail
    go_quiet (fail)
    go_wp2_with fail
    exact ⟨⟨j+1,q+nq,.inl (by omega),congrArg (Value.int .i64) (by omega),F,rfl⟩,by simp [intOf];omega⟩
  ·have p:Hid (bC l=true):=Lib.hid (by
    rcases g with g | g
    ·have:l.length=j+1:=by omega
     unfold bC;rw [this];exact o.out
    ·subst g
     rcases Nat.eq_zero_or_pos l.length with A | A
     ·unfold bC;rw [A];rfl
     ·have:l.length=1:=by omega
      unfold bC;rw [this];exact o.out)
   have H:(l.length:Int)≤(j:Int)+1:=by omega
   go_wp2_with fail
   go_ret;exact ⟨by rw [p.out];rfl,q,rfl⟩
def stay (tos:List (List UInt8)) (out:List Bool):List (Nat×List UInt8):=(ix out out.length).map fun i=>(i,tos.getD i [])
theorem zO (o:List Bool) (l:List Nat) (i:Nat) (h:i < o.length):(jz o l).getD i false=(o.getD i false || l.contains i):=by
 induction l generalizing o with
 | nil=>simp [jz]
 | cons x l ih=>
  show (jz (o.set x true) l).getD i false=_;rw [ih _ (by rw [List.length_set];exact h),List.getD_eq_getElem?_getD,List.getD_eq_getElem?_getD,List.getElem?_set]
  by_cases a:x=i
  ·subst a;simp [h]
  ·have:(i == x)=false:=by simpa using fun e=>a e.symm
   rw [if_neg a,List.contains_cons,this,Bool.false_or]
theorem uI (o:List Bool) (l:List Nat):ix (jz o l) (jz o l).length=(ix o o.length).filter fun i=> !(l.contains i):=by
 unfold ix;rw [List.filter_filter,tq];apply List.filter_congr;intro i a;rw [zO o l i (List.mem_range.1 a)]
 cases o.getD i false <;> cases l.contains i <;> rfl
theorem qI (a:List (List UInt8)) (o:List Bool) (l:List Nat):stay a (jz o l)=(stay a o).filter fun r=> !(l.contains r.1):=by
 unfold stay;rw [uI,List.filter_map];rfl
theorem lg (o:List Bool) (i:Nat):i∈ix o o.length ↔ i < o.length∧o.getD i false=false:=by
 unfold ix;rw [List.mem_filter,List.mem_range]
 cases o.getD i false <;> simp
theorem rh {l:List Nat} (h:bC l=true):l.Pairwise (·< ·):=by
 rw [bC,List.all_eq_true] at h
 have a:∀i,i+1 < l.length→l.getD i 0 < l.getD (i+1) 0:=fun i b=>by
  have:=h (i+1) (List.mem_range.2 b);simpa [kz] using this
 have c:∀d i,i+d+1 < l.length→l.getD i 0 < l.getD (i+d+1) 0:=fun d=>by
  induction d with
  | zero=>intro i b;exact a i b
  | succ d ih=>
   intro i b;have k:=ih i (by omega);have m:=a (i+d+1) (by omega);have e:i+(d+1)+1=i+d+1+1:=by omega
   rw [e];omega
 rw [List.pairwise_iff_getElem];intro i j b f g;obtain ⟨d,rfl⟩:∃d,j=i+d+1:=⟨j - i - 1,by omega⟩
 have:=c d i f
 rwa [List.getD_eq_getElem?_getD,List.getD_eq_getElem?_getD,List.getElem?_eq_getElem b,List.getElem?_eq_getElem f] at this
theorem pq:∀{a b:List Nat},a.Pairwise (·< ·)→b.Pairwise (·< ·)→(∀i,i∈a ↔ i∈b)→a=b
 | [],[],_,_,_=>rfl
 | [],y::b,_,_,h=>by have:=(h y).2 (by simp);cases this
 | x::a,[],_,_,h=>by have:=(h x).1 (by simp);cases this
 | x::a,y::b,ha,hb,h=>by
  rw [List.pairwise_cons] at ha hb
  have e:x=y:=by
   have d:=(h x).1 (by simp);have f:=(h y).2 (by simp)
   rcases List.mem_cons.1 d with e | d
   ·exact e
   ·rcases List.mem_cons.1 f with e | f
    ·exact e.symm
    ·have:=hb.1 x d;have:=ha.1 y f;omega
  subst e;rw [pq ha.2 hb.2];intro i;have g:=h i;simp only [List.mem_cons] at g
  constructor
  ·intro c;have:=ha.1 i c
   rcases g.1 (.inr c) with e | e
   ·omega
   ·exact e
  ·intro c;have:=hb.1 i c
   rcases g.2 (.inr c) with e | e
   ·omega
   ·exact e
theorem lI (o:List Bool) (k:Nat):(ix o k).Pairwise (·< ·):=(List.pairwise_lt_range).filter _
theorem Ck (a:List (List UInt8)) (o:List Bool) (l:List Nat) (c:bC l=true) (b:∀x∈l,x < o.length∧o.getD x false=false):((stay a o).filter fun r=>l.contains r.1).map (·.2)=l.map fun i=>a.getD i []:=by
 unfold stay;rw [List.filter_map,List.map_map]
 have e:(ix o o.length).filter ((fun r:Nat×List UInt8=>l.contains r.1) ∘ fun i=>(i,a.getD i []))=l:=by
  apply pq ((lI o _).filter _) (rh c);intro i;rw [List.mem_filter,lg];simp only [Function.comp,List.contains_iff_mem];exact ⟨fun h=>h.2,fun h=>⟨b i h,h⟩⟩
 rw [e];rfl
theorem D9 (o:List Bool) (l:List Nat):(List.range l.length).all (xN o l)=(bC l && l.all fun x=>decide (x < o.length) && !(o.getD x false)):=by
 have b:∀i,xN o l i=(kz l i && (decide (l.getD i 0 < o.length) && !(o.getD (l.getD i 0) false))):=fun i=>by
  unfold xN kz;rw [Bool.and_comm]
 have c:(List.range l.length).all (fun i=>decide (l.getD i 0 < o.length) && !(o.getD (l.getD i 0) false))=l.all fun x=>decide (x < o.length) && !(o.getD x false):=by
  rw [Bool.eq_iff_iff,List.all_eq_true,List.all_eq_true]
  constructor
  ·intro h x d;obtain ⟨i,a,rfl⟩:=List.getElem_of_mem d;have:=h i (List.mem_range.2 a)
   rwa [List.getD_eq_getElem?_getD,List.getElem?_eq_getElem a] at this
  ·intro h i a;have a:=List.mem_range.1 a;have:=h l[i] (List.getElem_mem a);rw [List.getD_eq_getElem?_getD,List.getElem?_eq_getElem a];exact this
 rw [←c,bC,Bool.eq_iff_iff];simp only [Bool.and_eq_true,List.all_eq_true,b];exact ⟨fun h=>⟨fun i a=>(h i a).1,fun i a=>(h i a).2⟩,fun h i a=>⟨h.1 i a,h.2 i a⟩⟩
theorem Ag (a:List (List UInt8)) (o:List Bool) (x:Nat):(stay a o).any (fun r=>decide (r.1=x))=(decide (x < o.length) && !(o.getD x false)):=by
 rw [Bool.eq_iff_iff,List.any_eq_true];unfold stay;simp only [List.mem_map,Bool.and_eq_true,decide_eq_true_eq,Bool.not_eq_true']
 constructor
 ·rintro ⟨r,⟨i,b,rfl⟩,rfl⟩;exact (lg o i).1 b
 ·intro h;exact ⟨(x,a.getD x []),⟨x,(lg o x).2 h,rfl⟩,rfl⟩
def hY (tos:List (List UInt8)):Bool:=decide (1≤tos.length) && decide (tos.length≤10) && (List.range tos.length).all (nJ tos)
def de (m:aR):Bool:=decide (m.time≤1000000000) && (m.frm.isEmpty || dx m.frm) && hY m.tos && decide (m.body.length≤1000)
def dJ (r:List UInt8):Option (Nat×List Nat):=(qx r).bind fun x=>if decide (1≤x.2.length) && bC x.2 then some x else none
def bL (l:List UInt8):Option aR:=
 match l with
 | []=>none
 | c::r=>if c=77 then (mq r).bind fun m=>if de m then some m else none else none
def db (l:List UInt8):Option (Nat×List Nat):=
 match l with
 | []=>none
 | c::r=>if c=71 then dJ r else none
def bO (l:List UInt8):Option (Nat×Nat×List Nat):=
 match l with
 | []=>none
 | c::r=>if c=70 then (fU 4 r).bind fun a=>(dJ a.2).bind fun x=>if a.1≤1000000000 then some (a.1,x.1,x.2) else none else none
def aa.outOf (S:aa) (K:Nat):List Bool:=(S.items.map (·.out)).getD K []
def bu (S:aa) (id:Nat) (ps:List Nat):Bool:=decide (1≤id) && decide (id≤S.items.length) && ps.all fun x=>decide (x < (S.outOf (id - 1)).length) && !((S.outOf (id - 1)).getD x false)
def aa.takesM (S:aa) (m:aR):Option aa:=if decide (m.id=S.items.length+1) && decide (S.time≤m.time) then some ⟨S.items++[⟨m,List.replicate m.tos.length false⟩],m.time⟩ else none
def aa.takesG (S:aa) (id:Nat) (ps:List Nat):Option aa:=if bu S id ps then some (S.outs (id - 1) ps) else none
def aa.takesF (S:aa) (T id:Nat) (ps:List Nat):Option aa:=if bu S id ps && decide (S.time≤T) then some ((S.outs (id - 1) ps).failed (S.mailOf (id - 1)) ps T) else none
theorem zP (S:aa) (g:Nat) (f:List Nat):wh S g f=(decide (1≤f.length) && bC f && bu S g f):=by
 unfold wh bu aa.outOf;rw [D9,Bool.eq_iff_iff];simp only [Bool.and_eq_true]
 constructor
 ·rintro ⟨⟨⟨a,b⟩,c⟩,d,e⟩;exact ⟨⟨c,d⟩,⟨a,b⟩,e⟩
 ·rintro ⟨⟨c,d⟩,⟨a,b⟩,e⟩;exact ⟨⟨⟨a,b⟩,c⟩,d,e⟩
theorem BU (n T:Nat) (m:aR):pt n T m=(de m && (decide (m.id=n+1) && decide (T≤m.time))):=by
 unfold pt de hY;rw [Bool.eq_iff_iff];simp only [Bool.and_eq_true]
 constructor
 ·rintro ⟨⟨⟨⟨⟨⟨⟨a,b⟩,c⟩,d⟩,e⟩,f⟩,g⟩,h⟩;exact ⟨⟨⟨⟨c,g⟩,⟨d,e⟩,h⟩,f⟩,a,b⟩
 ·rintro ⟨⟨⟨⟨c,g⟩,⟨d,e⟩,h⟩,f⟩,a,b⟩;exact ⟨⟨⟨⟨⟨⟨⟨a,b⟩,c⟩,d⟩,e⟩,f⟩,g⟩,h⟩
theorem Cr (S:aa) (r:List UInt8):S.takes (77::r)=(bL (77::r)).bind S.takesM:=by
 have a:S.takes (77::r)=if pt S.items.length S.time (ig r) && (dd (ig r) == 77::r) then some ⟨S.items++[⟨ig r,List.replicate (ig r).tos.length false⟩],(ig r).time⟩ else none:=by
  unfold aa.takes;simp only;rw [if_pos trivial]
 have b:bL (77::r)=(mq r).bind fun m=>if de m then some m else none:=by
  unfold bL;simp only;rw [if_pos trivial]
 rw [a,b,DU,BU]
 by_cases h:dd (ig r)=77::r
 ·rw [if_pos h,sb,h]
  cases c:de (ig r) with
  | false=>simp
  | true=>
   simp only [Bool.true_and,beq_self_eq_true,Bool.and_true,if_true,sb];rfl
 ·rw [if_neg h];have:(dd (ig r) == 77::r)=false:=by simpa using h
  rw [this,Bool.and_false];rfl
theorem Cq (S:aa) (r:List UInt8):S.takes (71::r)=(db (71::r)).bind fun x=>S.takesG x.1 x.2:=by
 have a:db (71::r)=dJ r:=by
  unfold db;simp only;rw [if_pos trivial]
 rw [Hq,a,dJ,vT,zP];show (if decide (1≤(bB r).2.length) && bC (bB r).2 && bu S (bB r).1 (bB r).2 && (71::aY (bB r).1 (bB r).2 == 71::r) then some (S.outs ((bB r).1 - 1) (bB r).2) else none)=((if aY (bB r).1 (bB r).2=r then some (bB r) else none).bind fun x=>if decide (1≤x.2.length) && bC x.2 then some x else none).bind fun x=>S.takesG x.1 x.2
 by_cases h:aY (bB r).1 (bB r).2=r
 ·rw [if_pos h,sb,h]
  cases b:(decide (1≤(bB r).2.length) && bC (bB r).2) with
  | false=>simp
  | true=>
   simp only [Bool.true_and,beq_self_eq_true,Bool.and_true,if_true,sb];rfl
 ·rw [if_neg h];have:(71::aY (bB r).1 (bB r).2 == 71::r)=false:=by simpa using h
  rw [this,Bool.and_false];rfl
theorem yb (S:aa) (r:List UInt8):S.takes (70::r)=(bO (70::r)).bind fun x=>S.takesF x.1 x.2.1 x.2.2:=by
 have i:bO (70::r)=(fU 4 r).bind fun a=>(dJ a.2).bind fun x=>if a.1≤1000000000 then some (a.1,x.1,x.2) else none:=by
  unfold bO;simp only;rw [if_pos trivial]
 rw [Hp,i]
 by_cases f:4≤r.length
 ·have c:fU 4 r=some (be (r.take 4),r.drop 4):=by unfold fU;rw [if_pos f]
  have k:aB 4 (be (r.take 4))=r.take 4:=by
   have:=se (r.take 4)
   rwa [show (r.take 4).length=4 by rw [List.length_take];omega] at this
  rw [c,sb,k];obtain ⟨T,j⟩:∃T,be (r.take 4)=T:=⟨_,rfl⟩;obtain ⟨q,d⟩:∃q,r.drop 4=q:=⟨_,rfl⟩;have g:r=r.take 4++q:=by rw [←d,List.take_append_drop]
  rw [j,d,dJ,vT,zP]
  show (if decide (1≤(bB q).2.length) && bC (bB q).2 && bu S (bB q).1 (bB q).2 && decide (S.time≤T) && decide (T≤1000000000) && (70::(r.take 4++aY (bB q).1 (bB q).2) == 70::r) then some ((S.outs ((bB q).1 - 1) (bB q).2).failed (S.mailOf ((bB q).1 - 1)) (bB q).2 T) else none)=
   (((if aY (bB q).1 (bB q).2=q then some (bB q) else none).bind fun x=>if decide (1≤x.2.length) && bC x.2 then some x else none).bind fun x=>if T≤1000000000 then some (T,x.1,x.2) else none).bind fun x=>S.takesF x.1 x.2.1 x.2.2
  by_cases h:aY (bB q).1 (bB q).2=q
  ·have l:(70::(r.take 4++aY (bB q).1 (bB q).2) == 70::r)=true:=by rw [h,←g];simp
   rw [if_pos h,sb,l]
   cases m:(decide (1≤(bB q).2.length) && bC (bB q).2) with
   | false=>simp
   | true=>
    simp only [Bool.true_and,Bool.and_true,if_true,sb]
    by_cases b:T≤1000000000
    ·rw [if_pos b,sb,decide_eq_true b,Bool.and_true];rfl
    ·rw [if_neg b,decide_eq_false b,Bool.and_false];rfl
  ·rw [if_neg h]
   have:(70::(r.take 4++aY (bB q).1 (bB q).2) == 70::r)=false:=by
    rw [beq_eq_false_iff_ne];intro e;injection e with _ e;exact h (List.append_cancel_left (e.trans g))
   rw [this,Bool.and_false];rfl
 ·have c:fU 4 r=none:=by unfold fU;rw [if_neg f]
  rw [c]
  have:(70::(aB 4 (be (r.take 4))++aY (bB (r.drop 4)).1 (bB (r.drop 4)).2) == 70::r)=false:=by
   rw [beq_eq_false_iff_ne];intro e;injection e with _ e;have:=congrArg List.length e;rw [List.length_append,bq] at this;omega
  rw [this,Bool.and_false];rfl
theorem Cs (S:aa) (l:List UInt8):S.takes l=
  match bL l with
  | some m=>S.takesM m
  | none=>match db l with
   | some x=>S.takesG x.1 x.2
   | none=>match bO l with
    | some x=>S.takesF x.1 x.2.1 x.2.2
    | none=>none:=by
 cases l with
 | nil=>rfl
 | cons c r=>
  by_cases a:c=77
  ·subst a;rw [Cr]
   cases e:bL (77::r) with
   | some m=>rfl
   | none=>rfl
  ·have f:bL (c::r)=none:=by unfold bL;simp only;rw [if_neg a]
   rw [f]
   by_cases b:c=71
   ·subst b;rw [Cq]
    cases e:db (71::r) with
    | some m=>rfl
    | none=>rfl
   ·have g:db (c::r)=none:=by unfold db;simp only;rw [if_neg b]
    simp only [g]
    by_cases d:c=70
    ·subst d;rw [yb]
     cases e:bO (70::r) with
     | some m=>rfl
     | none=>rfl
    ·have h:bO (c::r)=none:=by unfold bO;simp only;rw [if_neg d]
     simp only [h];unfold aa.takes;simp only;rw [if_neg a,if_neg b,if_neg d]
theorem dh (l:List (List UInt8)) (k:Nat) (h:k < l.length):(az l)[k]? =some (.string (bs l[k])):=by simp [az,h]
theorem ll {l:List (List UInt8)} {t:List UInt8} {k:Nat} (b:k < l.length) (h:t ∉ l.take k) (c:¬t=l[k]):t ∉ l.take (k+1):=by
 rw [List.take_succ_eq_append_getElem b,List.mem_append,List.mem_singleton];rintro (a | a)
 ·exact h a
 ·exact c a
theorem xB (l:List (List UInt8)) (t:List UInt8) (v:Value) (w:World) (h:aZ w v l.length 1 (az l)) (z:l.length≤255):
  Calls Tryz.prog 237 #[v,.string (bs t)] w fun e x=>∃r:Int,e= .returned (.int .i64 r)∧(-1≤r∧r≤255)∧(0≤r ↔ t∈l)∧w=x:=by
 obtain ⟨a,q,rfl,n⟩:=h.one;have p:=Lib.hid n;clear n h;go_enter Tryz.func237,Tryz.ntmps237;go_wp2_with fail
 go_loop [8] (fun i=>∃k:Nat,k≤l.length∧i= .int .i64 k∧Hid (t ∉ l.take k)) (fun i=>l.length - (intOf i).toNat)
 case atStart=>exact ⟨0,Nat.zero_le _,rfl,Lib.hid (by simp)⟩
 case round=>
  obtain ⟨k,y,rfl,m⟩:=hrel
  by_cases c:k < l.length
  ·have o:(k:Int) < (l.length:Int):=by omega
   obtain ⟨b,u,rfl,_,d⟩:=p.out k c;rw [dh l k c] at d
   by_cases f:t=l[k]
   ·have s:((bs t).toList == (bs l[k]).toList)=true:=by rw [nR];simpa using f
    have g:Hid (t∈l):=Lib.hid (by rw [f];exact List.getElem_mem c);clear f;go_wp2_with fail
    go_ret;exact ⟨_,rfl,by omega,⟨fun _=>g.out,fun _=>by omega⟩,rfl⟩
   ·have s:((bs t).toList == (bs l[k]).toList)=false:=by rw [nR];simpa using f
    have g:=Lib.hid (ll c m.out f);clear f;go_wp2_with fail
    exact ⟨⟨k+1,by omega,by go_num,g⟩,by simp [intOf];omega⟩
  ·have j:k=l.length:=by omega
   subst j
   have g:Hid (t ∉ l):=Lib.hid (by
    have:=m.out
    rwa [List.take_length] at this)
   go_wp2_with fail
   go_ret;exact ⟨_,rfl,by omega,⟨fun h=>by omega,fun h=>absurd h g.out⟩,rfl⟩
theorem lG (l:List (List UInt8)) (t:List UInt8) (v:Value) (w:World) (h:aZ w v l.length 1 (az l)) (g:l.length≤255):
  Calls Tryz.prog 201 #[v,.string (bs t)] w fun e i=>e= .returned (.bool (l.contains t))∧w=i:=by
 have c:=xB l t v w h g;obtain ⟨a,f,rfl,_⟩:=h.one;clear h;go_enter Tryz.func201,Tryz.ntmps201;go_wp2_with fail
 refine c.mono ?_;rintro e k ⟨r,rfl,j,b,rfl⟩;have d:Hid (decide (0≤r)=l.contains t):=Lib.hid (by rw [Bool.eq_iff_iff,decide_eq_true_iff,List.contains_iff_mem];exact b);clear b c;go_wp2_with fail
 go_ret;exact ⟨cA d.out,rfl⟩
theorem Bh (l:List (List UInt8)) (k:Nat) (h:k < l.length):xt l k= !((l.take k).contains l[k]):=by
 unfold xt;rw [Bool.eq_iff_iff,List.all_eq_true,Bool.not_eq_true',←Bool.not_eq_true,List.contains_iff_mem];have b:l.getD k []=l[k]:=by rw [List.getD_eq_getElem?_getD,List.getElem?_eq_getElem h];rfl
 constructor
 ·intro c d;obtain ⟨j,a,e⟩:=List.getElem_of_mem d;rw [List.length_take] at a;have:=c j (List.mem_range.2 (by omega));rw [b,List.getD_eq_getElem?_getD,List.getElem?_eq_getElem (by omega:j < l.length)] at this;rw [List.getElem_take] at e;simp [e] at this
 ·intro f j a;have a:=List.mem_range.1 a;rw [b,List.getD_eq_getElem?_getD,List.getElem?_eq_getElem (by omega:j < l.length)];simp only [Option.getD_some,Bool.not_eq_true',beq_eq_false_iff_ne,ne_eq];intro e;exact f (by rw [←e];exact List.mem_take_iff_getElem.2 ⟨j,by omega,rfl⟩)
theorem aZ.part {w:World} {a:Option Addr} {n c:Nat} {l:List (List UInt8)} (h:aZ w (.slice a n c) l.length 1 (az l)) (k:Nat) (r:k≤l.length):aZ w (.slice a k c) (l.take k).length 1 (az (l.take k)):=by
 have f:(l.take k).length=k:=by rw [List.length_take];omega
 refine ⟨by simp [az],?_⟩
 rw [f]
 rcases h.2 with ⟨p,o,d,e⟩ | ⟨b,g,d,e,m,i⟩
 ·have:k=0:=by omega
  subst this;exact .inl ⟨rfl,_,_,rfl⟩
 ·injection e with e1 e2 e3;subst e1 e3;refine .inr ⟨b,g,_,rfl,by omega,fun j q=>?_⟩
  rw [i j (by omega)];simp [az,show j < k by omega]
theorem tC (l:List (List UInt8)) (v:Value) (m:Int) (w:World) (h:aZ w v l.length 1 (az l)) (hl:l.length≤255) (U:∀t∈l,t.length≤255) (T:w.cell? ⟨0,0,none⟩=some (.int .i64 m)):
  Calls Tryz.prog 219 #[v] w fun e r=>e= .returned (.bool (hY l))∧Below w.heap.size w r:=by
 obtain ⟨a,x,rfl,Q⟩:=h.one;have R:=h.cap;have V:=Lib.hid Q;have W:=Lib.hid h;have X:=Lib.hid U;have Y:=aA T;clear Q h U
 by_cases O:1≤l.length
 ·by_cases P:l.length≤10
  ·have s:Hid (hY l=(List.range l.length).all (nJ l)):=Lib.hid (by unfold hY;rw [decide_eq_true O,decide_eq_true P];rfl);have y:decide ((l.length:Int) < 1)=false:=decide_eq_false (by omega);have H:decide (10 < (l.length:Int))=false:=decide_eq_false (by omega);go_enter Tryz.func219,Tryz.ntmps219;go_wp2_with fail
   go_loopw [15] (fun i r=>∃k:Nat,k≤l.length∧i= .int .i64 k∧Hid (∀j,j < k→nJ l j=true)∧Hid (Below w.heap.size w r)) (fun i _=>l.length - (intOf i).toNat)
   case atStart=>exact ⟨0,Nat.zero_le _,rfl,Lib.hid (fun j I=>by omega),Lib.hid (Below.refl _ _)⟩
   case round=>
    obtain ⟨k,Z,rfl,M,p⟩:=hrel
    by_cases g:k < l.length
    ·have S:(k:Int) < (l.length:Int):=by omega
     obtain ⟨b,A,rfl,F,f⟩:=V.out k g;rw [dh l k g] at f;have G:wr.cell? ⟨b,A+k,none⟩=some (.string (bs l[k])):=(p.out.cell F).trans f;have K:=X.out l[k] (List.getElem_mem g)
     have n:Hid (nJ l k=(dx l[k] && !((l.take k).contains l[k]))):=Lib.hid (by
      unfold nJ
      rw [Bh l k g,List.getD_eq_getElem?_getD,List.getElem?_eq_getElem g];rfl)
     obtain ⟨t,N⟩:∃t,l[k]=t:=⟨_,rfl⟩;rw [N] at G K n;have z:wr.cell? ⟨0,0,none⟩=some (.int .i64 m):=(p.out.cell Y).trans T;have u:=Lib.hid (sO t m wr (by omega) z);have q:Hid (∀r,Below w.heap.size w r→Calls Tryz.prog 201 #[.slice (some ⟨b,A,none⟩) k x,.string (bs t)] r fun e L=>e= .returned (.bool ((l.take k).contains t))∧r=L):=Lib.hid (fun r E=>lG (l.take k) t _ r ((W.out.below E).part k Z) (by rw [List.length_take];omega));have a0:(0:Int)≤(k:Int):=by omega
     have a1:(k:Int)≤(x:Int):=by omega
     clear N f z
     cases C:dx t with
     | false=>
      have o:Hid ((List.range l.length).all (nJ l)=false):=Lib.hid (pG g (by rw [n.out,C];rfl));rw [C] at u;go_wp2_with fail
      refine u.out.mono ?_;rintro e B ⟨rfl,c⟩;have d:=Lib.hid (p.out.trans (c.mono p.out.size));clear c;go_wp2_with fail
      go_ret;exact ⟨cA (by rw [s.out,o.out]),d.out⟩
     | true=>
      rw [C] at u n
      cases D:(l.take k).contains t with
      | true=>
       have o:Hid ((List.range l.length).all (nJ l)=false):=Lib.hid (pG g (by rw [n.out,D];rfl));rw [D] at q;go_wp2_with fail
       refine u.out.mono ?_;rintro e B ⟨rfl,c⟩;have d:=Lib.hid (p.out.trans (c.mono p.out.size));clear c;go_wp2_with fail
       refine (q.out B d.out).mono ?_;rintro e w2 ⟨rfl,rfl⟩;go_wp2_with fail
       go_ret;exact ⟨cA (by rw [s.out,o.out]),d.out⟩
      | false=>
       rw [D] at q n;go_wp2_with fail
       refine u.out.mono ?_;rintro e B ⟨rfl,c⟩;have d:=Lib.hid (p.out.trans (c.mono p.out.size));clear c;go_wp2_with fail
       refine (q.out B d.out).mono ?_;rintro e w2 ⟨rfl,rfl⟩;go_wp2_with fail
       refine ⟨⟨k+1,by omega,by go_num,Lib.hid (fun j I=>?_),d⟩,by simp [intOf];omega⟩
       rcases Nat.lt_or_ge j k with h | h
       ·exact M.out j h
       ·have:j=k:=by omega
        subst this;rw [n.out];rfl
    ·have J:k=l.length:=by omega
     subst J;have o:Hid ((List.range l.length).all (nJ l)=true):=Lib.hid (List.all_eq_true.2 (fun j I=>M.out j (List.mem_range.1 I)));go_wp2_with fail
     go_ret;exact ⟨cA (by rw [s.out,o.out]),p.out⟩
  ·have s:Hid (hY l=false):=Lib.hid (by unfold hY;rw [decide_eq_false P];simp);have y:decide ((l.length:Int) < 1)=false:=decide_eq_false (by omega);have H:decide (10 < (l.length:Int))=true:=decide_eq_true (by omega);go_enter Tryz.func219,Tryz.ntmps219;go_wp2_with fail
   go_ret;exact ⟨cA s.out.symm,Below.refl _ _⟩
 ·have s:Hid (hY l=false):=Lib.hid (by unfold hY;rw [decide_eq_false O];simp);have y:decide ((l.length:Int) < 1)=true:=decide_eq_true (by omega);go_enter Tryz.func219,Tryz.ntmps219;go_wp2_with fail
  go_ret;exact ⟨cA s.out.symm,Below.refl _ _⟩
theorem zD (H:aR) (v:Value) (m:Int) (w:World) (h:aZ w v H.tos.length 1 (az H.tos)) (hz:dq H) (hm:w.cell? ⟨0,0,none⟩=some (.int .i64 m)):
  Calls Tryz.prog 165 #[.agg (aV H v)] w fun e q=>e= .returned (.bool (de H))∧Below w.heap.size w q:=by
 obtain ⟨D,c,f,g,d⟩:=H;obtain ⟨z1,z2,z3,z4,X,z6⟩:=hz;simp only at h z1 z2 z3 z4 X z6;obtain ⟨a,o,rfl,_⟩:=h.one;simp only [aV];have h0:=aA hm;have HH:=Lib.hid h;have I:=Lib.hid X;have s:Hid (de ⟨D,c,f,g,d⟩=(decide (c≤1000000000) && (f.isEmpty || dx f) && hY g && decide (d.length≤1000))):=Lib.hid rfl;obtain ⟨A,y⟩:∃A:World,w.alloc (.cells #[.int .i64 D,.int .i64 c,.string (bs f),.slice a g.length o,.string (bs d)] 45)=A:=⟨_,rfl⟩;have J:Below w.heap.size w A:=by rw [←y];exact (Below.refl _ _).alloc (Nat.le_refl _) _
 have M:A.heap.size=w.heap.size+1:=by rw [←y];simp
 have hx:A.heap[w.heap.size]? =some (.cells #[.int .i64 D,.int .i64 c,.string (bs f),.slice a g.length o,.string (bs d)] 45 (0,0)):=by rw [←y];exact heap_alloc_new w _
 have R:Hid (∀q,Below (w.heap.size+1) A q→Below w.heap.size w q∧q.cell? ⟨w.heap.size,1,none⟩=some (.int .i64 c)∧q.cell? ⟨w.heap.size,2,none⟩=some (.string (bs f))∧q.cell? ⟨w.heap.size,3,none⟩=some (.slice a g.length o)∧q.cell? ⟨w.heap.size,4,none⟩=some (.string (bs d))∧q.cell? ⟨0,0,none⟩=some (.int .i64 m)∧aZ q (.slice a g.length o) g.length 1 (az g)):=Lib.hid (fun q Z=>by
  have F:Below w.heap.size w q:=J.trans (Z.mono (by omega));have O:q.heap[w.heap.size]? =_:=(Z.block w.heap.size (by omega)).trans hx
  exact ⟨F,by rw [Lib.cell_of_heap O];rfl,by rw [Lib.cell_of_heap O];rfl,by rw [Lib.cell_of_heap O];rfl,by rw [Lib.cell_of_heap O];rfl,(F.cell h0).trans hm,HH.out.below F⟩)
 obtain ⟨Y,x1,x2,x3,x4,L,_⟩:=R.out A (Below.refl _ _);have sF:=aI f;have sB:=aI d;have x:=Lib.hid y;have k:=Lib.hid M;have r:=Lib.hid Y;clear h X J hx y M Y;have hd:∀b:Bool,decide ((c:Int)≤1000000000)=b→b=decide (c≤1000000000):=fun b h=>by rw [←h,Bool.eq_iff_iff];simp;omega
 cases S:decide ((c:Int)≤1000000000) with
 | false=>
  have t:Hid (de ⟨D,c,f,g,d⟩=false):=Lib.hid (by rw [s.out,decide_eq_false (show ¬c≤1000000000 by simp at S;omega)];rfl);clear hd;go_enter Tryz.func165,Tryz.ntmps165;go_wp2_with fail
  rw [x.out];go_ret;exact ⟨cA t.out.symm,r.out⟩
 | true=>
  clear hd
  by_cases E:f=[]
  ·have K:(bs f).toList=[]:=by rw [E,Lib.toList_data];rfl
   have T:(bs f).toList.isEmpty=true:=by rw [K];rfl
   have z:f.isEmpty=true:=by rw [E];rfl
   have C:=Lib.hid z;clear E z;have j:=Lib.hid (tC g (.slice a g.length o) m A (R.out A (by rw [←k.out];exact Below.refl _ _)).2.2.2.2.2.2 (by omega) I.out L)
   cases p:hY g with
   | false=>
    have t:Hid (de ⟨D,c,f,g,d⟩=false):=Lib.hid (by rw [s.out,p];simp);rw [p] at j;clear p s;go_enter Tryz.func165,Tryz.ntmps165;go_wp2_with fail
    rw [x.out];refine j.out.mono ?_;rintro e N ⟨rfl,i⟩;have l:=Lib.hid (r.out.trans (i.mono (by rw [k.out];omega)));clear i;go_wp2_with fail
    go_ret;exact ⟨cA t.out.symm,l.out⟩
   | true=>
    have t:Hid (de ⟨D,c,f,g,d⟩=decide (d.length≤1000)):=Lib.hid (by rw [s.out,p,decide_eq_true (show c≤1000000000 by simp at S;omega),C.out];simp);rw [p] at j;clear p s;go_enter Tryz.func165,Tryz.ntmps165;go_wp2_with fail
    rw [x.out];refine j.out.mono ?_;rintro e N ⟨rfl,i⟩;have y4:N.cell? ⟨w.heap.size,4,none⟩=some (.string (bs d)):=(i.cell (by show w.heap.size < _;rw [k.out];omega)).trans x4;have l:=Lib.hid (r.out.trans (i.mono (by rw [k.out];omega)));clear i;go_wp2_with fail
    go_ret;refine ⟨cA ?_,l.out⟩;rw [t.out,Bool.eq_iff_iff];simp;omega
  ·have K:¬(bs f).toList=[]:=by rw [Lib.toList_data,aQ];exact E
   have T:(bs f).toList.isEmpty=false:=by rw [Lib.toList_data,aQ];simpa using E
   have z:f.isEmpty=false:=by simpa using E
   have C:=Lib.hid z;have u:=Lib.hid (sO f m A (by omega) L);clear E z
   cases G:dx f with
   | false=>
    have t:Hid (de ⟨D,c,f,g,d⟩=false):=Lib.hid (by rw [s.out,G,C.out];simp);rw [G] at u;clear G s;go_enter Tryz.func165,Tryz.ntmps165;go_wp2_with fail
    rw [x.out];refine u.out.mono ?_;rintro e P ⟨rfl,n⟩;have B:=Lib.hid (r.out.trans (n.mono (by rw [k.out];omega)));clear n;go_wp2_with fail
    go_ret;exact ⟨cA t.out.symm,B.out⟩
   | true=>
    rw [G] at u;have Q:=Lib.hid G;clear G;go_enter Tryz.func165,Tryz.ntmps165;go_wp2_with fail
    rw [x.out];refine u.out.mono ?_;rintro e P ⟨rfl,n⟩;have B:=Lib.hid (r.out.trans (n.mono (by rw [k.out];omega)));obtain ⟨_,y1,y2,y3,W,U,V⟩:=R.out P (by rw [←k.out];exact n);have a0:w.heap.size+1≤P.heap.size:=by have:=n.size;rw [k.out] at this;exact this
    clear n x1 x2 x3 x4 u;have j:=Lib.hid (tC g (.slice a g.length o) m P V (by omega) I.out U)
    cases p:hY g with
    | false=>
     have t:Hid (de ⟨D,c,f,g,d⟩=false):=Lib.hid (by rw [s.out,p];simp);rw [p] at j;clear p s;go_wp2_with fail
     refine j.out.mono ?_;rintro e N ⟨rfl,i⟩;have l:=Lib.hid (B.out.trans (i.mono (by omega)));clear i;go_wp2_with fail
     go_ret;exact ⟨cA t.out.symm,l.out⟩
    | true=>
     have t:Hid (de ⟨D,c,f,g,d⟩=decide (d.length≤1000)):=Lib.hid (by rw [s.out,p,decide_eq_true (show c≤1000000000 by simp at S;omega),C.out,Q.out];simp);rw [p] at j;clear p s;go_wp2_with fail
     refine j.out.mono ?_;rintro e N ⟨rfl,i⟩;have y4:N.cell? ⟨w.heap.size,4,none⟩=some (.string (bs d)):=(i.cell (by show w.heap.size < _;omega)).trans W;have l:=Lib.hid (B.out.trans (i.mono (by omega)));clear i;go_wp2_with fail
     go_ret;refine ⟨cA ?_,l.out⟩;rw [t.out,Bool.eq_iff_iff];simp;omega
structure qN (p:Nat) (w w':World):Prop where
 size:w.heap.size≤w'.heap.size
 block:∀k,k < w.heap.size→k≠p→w'.heap[k]? =w.heap[k]?
 still:dI w w'
theorem qN.refl (p:Nat) (w:World):qN p w w:=⟨Nat.le_refl _,fun _ _ _=>rfl,dI.refl w⟩
theorem qN.trans {p:Nat} {a b c:World} (h:qN p a b) (d:qN p b c):qN p a c:=⟨Nat.le_trans h.size d.size,fun k e f=>(d.block k (Nat.lt_of_lt_of_le e h.size) f).trans (h.block k e f),h.still.trans d.still⟩
theorem qN.below {p B:Nat} {a b:World} (h:qN p a b) (c:B≤p) (e:B≤a.heap.size):Below B a b:=⟨h.still.1,h.still.2.1,h.still.2.2,h.size,fun k d=>h.block k (by omega) (by omega)⟩
theorem kh (c:UInt8):(65≤c.toNat∧c.toNat≤90∧(Lib.lowerB c).toNat=c.toNat+32)∨(¬(65≤c.toNat∧c.toNat≤90)∧Lib.lowerB c=c):=by
 unfold Lib.lowerB Lib.isUpperB
 by_cases h:65≤c.toNat∧c.toNat≤90
 ·left
  have a:(decide ((65:UInt8)≤c) && decide (c≤90))=true:=by
   simp only [Bool.and_eq_true,decide_eq_true_eq,UInt8.le_iff_toNat_le,UInt8.reduceToNat];exact h
  rw [if_pos a,UInt8.toNat_add];simp only [UInt8.reduceToNat];omega
 ·right
  have a:¬(decide ((65:UInt8)≤c) && decide (c≤90))=true:=by
   simp only [Bool.and_eq_true,decide_eq_true_eq,UInt8.le_iff_toNat_le,UInt8.reduceToNat];exact h
  rw [if_neg a];exact ⟨h,rfl⟩
theorem FJ (c:UInt8):ET (Lib.lowerB c)=ET c:=by
 rcases kh c with ⟨b,d,a⟩ | ⟨_,h⟩
 ·unfold ET DP gW;rw [a];rw [Bool.eq_iff_iff];simp only [Bool.or_eq_true,Bool.and_eq_true,decide_eq_true_eq];omega
 ·rw [h]
theorem td (c d:UInt8) (j:d.toNat < 65):(Lib.lowerB c == d)=(c == d):=by
 rcases kh c with ⟨a,i,b⟩ | ⟨_,h⟩
 ·have f:(Lib.lowerB c == d)=false:=by rw [beq_eq_false_iff_ne];intro e;rw [e] at b;omega
  have g:(c == d)=false:=by rw [beq_eq_false_iff_ne];intro e;rw [e] at a;omega
  rw [f,g]
 ·rw [h]
theorem Bz (c:UInt8):Lib.lowerB (Lib.lowerB c)=Lib.lowerB c:=by
 rcases kh c with ⟨a,b,d⟩ | ⟨_,h⟩
 ·rcases kh (Lib.lowerB c) with ⟨g1,g2,_⟩ | ⟨_,g⟩
  ·omega
  ·exact g
 ·rw [h,h]
theorem zC (l:List UInt8):Lib.toLowerA (Lib.toLowerA l)=Lib.toLowerA l:=by
 unfold Lib.toLowerA;rw [List.map_map];apply List.map_congr_left;intro c _;exact Bz c
theorem ta (l:List UInt8):(Lib.toLowerA l).length=l.length:=by simp [Lib.toLowerA]
theorem qz (l:List UInt8) (i:Nat) (d:UInt8) (a:d.toNat < 65) (_:d≠0):((Lib.toLowerA l).getD i 0 == d)=(l.getD i 0 == d):=by
 unfold Lib.toLowerA;rw [List.getD_eq_getElem?_getD,List.getD_eq_getElem?_getD,List.getElem?_map]
 cases l[i]? with
 | none=>rfl
 | some c=>exact td c d a
theorem Bt (l:List UInt8):sW (Lib.toLowerA l)=sW l:=by
 unfold sW;rw [ta,qz l 0 45 (by decide) (by decide),qz l (l.length - 1) 45 (by decide) (by decide)]
 congr 1
 unfold Lib.toLowerA;rw [List.all_map]
 congr 1
 funext c
 simp only [Function.comp];rw [FJ,td c 45 (by decide)]
theorem Ec (c:UInt8) (l:List UInt8):df c l≠[]:=by
 cases l with
 | nil=>simp [df]
 | cons b r=>unfold df;split <;> simp
theorem pr:∀l:List UInt8,df 46 (Lib.toLowerA l)=(df 46 l).map Lib.toLowerA
 | []=>rfl
 | b::r=>by
  have c:=pr r;have e:Lib.toLowerA (b::r)=Lib.lowerB b::Lib.toLowerA r:=rfl
  have a:Lib.lowerB b=46 ↔ b=46:=by
   have:=td b 46 (by decide);rw [Bool.eq_iff_iff,beq_iff_eq,beq_iff_eq] at this;exact this
  rw [e];unfold df
  by_cases h:b=46
  ·rw [if_pos (a.2 h),if_pos h,c];rfl
  ·rw [if_neg (fun x=>h (a.1 x)),if_neg h,c];obtain ⟨p,f,d⟩:=List.exists_cons_of_ne_nil (Ec 46 r);rw [d];rfl
theorem AY (l:List UInt8):yX (Lib.toLowerA l)=yX l:=by
 unfold yX;rw [pr,ta,List.all_map]
 congr 1
 ·congr 2
  cases l <;> rfl
 ·congr 1
  funext p
  exact Bt p
theorem Im {l x:List UInt8} (c:∀a∈x,a≠64):bS 64 (x++64::l)=(x,l,true):=by
 induction x with
 | nil=>simp [bS]
 | cons a x ih=>
  have d:=c a (List.mem_cons_self ..);have:=ih (fun b e=>c b (List.mem_cons_of_mem _ e));simp only [List.cons_append];unfold bS;rw [this];simp [d]
theorem pI {l:List UInt8} (h:(iG l).2=true):dx (dM l)=true:=by
 have g:dM l=(eh l).1++64::(eh l).2.1:=by unfold dM;rw [h];rfl
 have d:(eh l).2.2=true:=h
 have j:pa (bS 64 l).1=true∧iK (bS 64 l).2.1=true∧eh l=((bS 64 l).1,Lib.toLowerA (bS 64 l).2.1,true):=by
  unfold eh at d ⊢
  split at d
  ·rename_i b
   rw [Bool.and_eq_true] at b;exact ⟨b.1,b.2,by rw [if_pos (by rw [b.1,b.2];rfl)]⟩
  ·cases d
 obtain ⟨c,m,i⟩:=j
 have f:∀a∈(bS 64 l).1,a≠64:=by
  intro a n e;subst e;unfold pa at c;rw [Bool.and_eq_true] at c;have:=List.all_eq_true.1 c.2 64 n
  revert this
  decide
 have k:eh (dM l)=((bS 64 l).1,Lib.toLowerA (bS 64 l).2.1,true):=by
  rw [g,i];simp only;unfold eh;rw [Im f];simp only;rw [c,xq,AY,←xq,m,zC];rfl
 unfold dx iG;rw [k,g,i];simp
end Go.Proofs.YtofpegbpgkkgkaaGreatDoor
