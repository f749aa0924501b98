import Derived.Test.YtofpegbpgkkgkaaGreatDoorS05
import Derived.Test.YtofpegbpgkkgkaaGreatDoorS06
import Derived.Test.YtofpegbpgkkgkaaGreatDoorS04
import Derived.Test.YtofpegbpgkkgkaaGreatDoorS07
namespace Go.Proofs.YtofpegbpgkkgkaaGreatDoor
set_option maxHeartbeats 8000000
set_option maxRecDepth 1000000
open Go.RowKit
def zq (out:List Bool) (l:List Nat) (i:Nat):Bool:=decide (l.getD i 0 < out.length) && !(out.getD (l.getD i 0) false) && (decide (i=0) || decide (l.getD (i - 1) 0 < l.getD i 0))
def xZ (S:bp) (id:Nat) (l:List Nat):Bool:=decide (1≤id) && decide (id≤S.items.length) && decide (1≤l.length) && (List.range l.length).all (zq ((S.items.map (·.out)).getD (id - 1) []) l)
def Jq:List UInt8:=[78,111,116,32,100,101,108,105,118,101,114,101,100,58]
def Ai (tos:List (List UInt8)) (ps:List Nat):List UInt8:=Jq++ps.flatMap fun x=>13::10::tos.getD x []
def bp.failed (S:bp) (m:aX) (ps:List Nat) (time:Nat):bp:=
 if m.frm=[] then ⟨S.items,time⟩ else ⟨S.items++[⟨⟨S.items.length+1,time,[],[m.frm],Ai m.tos ps⟩,[false]⟩],time⟩
def bI (l:List UInt8):Nat×List Nat:=(be (l.take 4),lg (be ((l.drop 4).take 1)) (l.drop 5))
def bp.mailOf (S:bp) (K:Nat):aX:=((S.items[K]?).map (·.m)).getD ⟨0,0,[],[],[]⟩
def bp.takes (S:bp) (l:List UInt8):Option bp:=
 match l with
 | []=>none
 | c::r=>
  if c=77 then
   if qp S.items.length S.time (iL r) && (k9 (iL r) == l) then some ⟨S.items++[⟨iL r,List.replicate (iL r).tos.length false⟩],(iL r).time⟩ else none
  else if c=71 then
   if xZ S (bI r).1 (bI r).2 && (71::aM (bI r).1 (bI r).2 == l) then some (S.outs ((bI r).1 - 1) (bI r).2) else none
  else if c=70 then
   if xZ S (bI (r.drop 4)).1 (bI (r.drop 4)).2 && decide (S.time≤be (r.take 4)) && decide (be (r.take 4)≤1000000000) && (70::(az 4 (be (r.take 4))++aM (bI (r.drop 4)).1 (bI (r.drop 4)).2) == l) then
    some ((S.outs ((bI (r.drop 4)).1 - 1) (bI (r.drop 4)).2).failed (S.mailOf ((bI (r.drop 4)).1 - 1)) (bI (r.drop 4)).2 (be (r.take 4)))
   else none
  else none
theorem JA (S:bp) (r:List UInt8):S.takes (71::r)=if xZ S (bI r).1 (bI r).2 && (71::aM (bI r).1 (bI r).2 == 71::r) then some (S.outs ((bI r).1 - 1) (bI r).2) else none:=by
 unfold bp.takes;simp only;rw [if_neg (by decide),if_pos trivial]
theorem Jz (S:bp) (r:List UInt8):S.takes (70::r)=if xZ S (bI (r.drop 4)).1 (bI (r.drop 4)).2 && decide (S.time≤be (r.take 4)) && decide (be (r.take 4)≤1000000000) && (70::(az 4 (be (r.take 4))++aM (bI (r.drop 4)).1 (bI (r.drop 4)).2) == 70::r) then some ((S.outs ((bI (r.drop 4)).1 - 1) (bI (r.drop 4)).2).failed (S.mailOf ((bI (r.drop 4)).1 - 1)) (bI (r.drop 4)).2 (be (r.take 4))) else none:=by
 unfold bp.takes;simp only;rw [if_neg (by decide),if_neg (by decide),if_pos trivial]
theorem vF {w:World} {a n:Nat} {e:TypeId} {v:Value} {f:List Value} (h:w.ownsRow a e 1 v n f):bg w v n 1 f:=by
 refine ⟨h.1,?_⟩
 rcases h.2 with ⟨b,l⟩ | ⟨g,i,k,b,_,m,c,_,_,d⟩
 ·exact .inl ⟨l,none,0,b⟩
 ·refine .inr ⟨g,0,i,b,c,fun j o=>?_⟩;rw [Nat.zero_add,Lib.cell_of_heap m,←Array.getElem?_toList,←List.getElem?_take_of_lt o,d]
theorem qM (a b:List UInt8):((bs a).toList == b)=(a == b):=by rw [Lib.toList_data,aI]
def stay (tos:List (List UInt8)) (out:List Bool):List (Nat×List UInt8):=(iW out out.length).map fun i=>(i,tos.getD i [])
theorem Br (o:List Bool) (l:List Nat) (i:Nat) (h:i < o.length):(jV o l).getD i false=(o.getD i false || l.contains i):=by
 induction l generalizing o with
 | nil=>simp [jV]
 | cons x l ih=>
  show (jV (o.set x true) l).getD i false=_;rw [ih _ (by rw [List.length_set];exact h),List.getD_eq_getElem?_getD,List.getD_eq_getElem?_getD,List.getElem?_set]
  by_cases a:x=i
  ·subst a;simp [h]
  ·have:(i == x)=false:=by simpa using fun e=>a e.symm
   rw [if_neg a,List.contains_cons,this,Bool.false_or]
theorem wR (o:List Bool) (l:List Nat):iW (jV o l) (jV o l).length=(iW o o.length).filter fun i=> !(l.contains i):=by
 unfold iW;rw [List.filter_filter,uS];apply List.filter_congr;intro i a;rw [Br o l i (List.mem_range.1 a)]
 cases o.getD i false <;> cases l.contains i <;> rfl
theorem rV (a:List (List UInt8)) (o:List Bool) (l:List Nat):stay a (jV o l)=(stay a o).filter fun r=> !(l.contains r.1):=by
 unfold stay;rw [wR,List.filter_map];rfl
theorem lW (o:List Bool) (i:Nat):i∈iW o o.length ↔ i < o.length∧o.getD i false=false:=by
 unfold iW;rw [List.mem_filter,List.mem_range]
 cases o.getD i false <;> simp
theorem sJ {l:List Nat} (h:bF l=true):l.Pairwise (·< ·):=by
 rw [bF,List.all_eq_true] at h
 have a:∀i,i+1 < l.length→l.getD i 0 < l.getD (i+1) 0:=fun i b=>by
  have:=h (i+1) (List.mem_range.2 b);simpa [lh] using this
 have c:∀d i,i+d+1 < l.length→l.getD i 0 < l.getD (i+d+1) 0:=fun d=>by
  induction d with
  | zero=>intro i b;exact a i b
  | succ d ih=>
   intro i b;have k:=ih i (by omega);have m:=a (i+d+1) (by omega);have e:i+(d+1)+1=i+d+1+1:=by omega
   rw [e];omega
 rw [List.pairwise_iff_getElem];intro i j b f g;obtain ⟨d,rfl⟩:∃d,j=i+d+1:=⟨j - i - 1,by omega⟩
 have:=c d i f
 rwa [List.getD_eq_getElem?_getD,List.getD_eq_getElem?_getD,List.getElem?_eq_getElem b,List.getElem?_eq_getElem f] at this
theorem qm:∀{a b:List Nat},a.Pairwise (·< ·)→b.Pairwise (·< ·)→(∀i,i∈a ↔ i∈b)→a=b
 | [],[],_,_,_=>rfl
 | [],y::b,_,_,h=>by have:=(h y).2 (by simp);cases this
 | x::a,[],_,_,h=>by have:=(h x).1 (by simp);cases this
 | x::a,y::b,ha,hb,h=>by
  rw [List.pairwise_cons] at ha hb
  have e:x=y:=by
   have d:=(h x).1 (by simp);have f:=(h y).2 (by simp)
   rcases List.mem_cons.1 d with e | d
   ·exact e
   ·rcases List.mem_cons.1 f with e | f
    ·exact e.symm
    ·have:=hb.1 x d;have:=ha.1 y f;omega
  subst e;rw [qm ha.2 hb.2];intro i;have g:=h i;simp only [List.mem_cons] at g
  constructor
  ·intro c;have:=ha.1 i c
   rcases g.1 (.inr c) with e | e
   ·omega
   ·exact e
  ·intro c;have:=hb.1 i c
   rcases g.2 (.inr c) with e | e
   ·omega
   ·exact e
theorem LK (o:List Bool) (k:Nat):(iW o k).Pairwise (·< ·):=(List.pairwise_lt_range).filter _
theorem DL (a:List (List UInt8)) (o:List Bool) (l:List Nat) (c:bF l=true) (b:∀x∈l,x < o.length∧o.getD x false=false):((stay a o).filter fun r=>l.contains r.1).map (·.2)=l.map fun i=>a.getD i []:=by
 unfold stay;rw [List.filter_map,List.map_map]
 have e:(iW o o.length).filter ((fun r:Nat×List UInt8=>l.contains r.1) ∘ fun i=>(i,a.getD i []))=l:=by
  apply qm ((LK o _).filter _) (sJ c);intro i;rw [List.mem_filter,lW];simp only [Function.comp,List.contains_iff_mem];exact ⟨fun h=>h.2,fun h=>⟨b i h,h⟩⟩
 rw [e];rfl
theorem FC (o:List Bool) (l:List Nat):(List.range l.length).all (zq o l)=(bF l && l.all fun x=>decide (x < o.length) && !(o.getD x false)):=by
 have b:∀i,zq o l i=(lh l i && (decide (l.getD i 0 < o.length) && !(o.getD (l.getD i 0) false))):=fun i=>by
  unfold zq lh;rw [Bool.and_comm]
 have c:(List.range l.length).all (fun i=>decide (l.getD i 0 < o.length) && !(o.getD (l.getD i 0) false))=l.all fun x=>decide (x < o.length) && !(o.getD x false):=by
  rw [Bool.eq_iff_iff,List.all_eq_true,List.all_eq_true]
  constructor
  ·intro h x d;obtain ⟨i,a,rfl⟩:=List.getElem_of_mem d;have:=h i (List.mem_range.2 a)
   rwa [List.getD_eq_getElem?_getD,List.getElem?_eq_getElem a] at this
  ·intro h i a;have a:=List.mem_range.1 a;have:=h l[i] (List.getElem_mem a);rw [List.getD_eq_getElem?_getD,List.getElem?_eq_getElem a];exact this
 rw [←c,bF,Bool.eq_iff_iff];simp only [Bool.and_eq_true,List.all_eq_true,b];exact ⟨fun h=>⟨fun i a=>(h i a).1,fun i a=>(h i a).2⟩,fun h i a=>⟨h.1 i a,h.2 i a⟩⟩
theorem BN (a:List (List UInt8)) (o:List Bool) (x:Nat):(stay a o).any (fun r=>decide (r.1=x))=(decide (x < o.length) && !(o.getD x false)):=by
 rw [Bool.eq_iff_iff,List.any_eq_true];unfold stay;simp only [List.mem_map,Bool.and_eq_true,decide_eq_true_eq,Bool.not_eq_true']
 constructor
 ·rintro ⟨r,⟨i,b,rfl⟩,rfl⟩;exact (lW o i).1 b
 ·intro h;exact ⟨(x,a.getD x []),⟨x,(lW o x).2 h,rfl⟩,rfl⟩
def iH (tos:List (List UInt8)):Bool:=decide (1≤tos.length) && decide (tos.length≤10) && (List.range tos.length).all (oG tos)
def dr (m:aX):Bool:=decide (m.time≤1000000000) && (m.frm.isEmpty || dH m.frm) && iH m.tos && decide (m.body.length≤1000)
def dq (r:List UInt8):Option (Nat×List Nat):=(rI r).bind fun x=>if decide (1≤x.2.length) && bF x.2 then some x else none
def bP (l:List UInt8):Option aX:=
 match l with
 | []=>none
 | c::r=>if c=77 then (nk r).bind fun m=>if dr m then some m else none else none
def dh (l:List UInt8):Option (Nat×List Nat):=
 match l with
 | []=>none
 | c::r=>if c=71 then dq r else none
def bS (l:List UInt8):Option (Nat×Nat×List Nat):=
 match l with
 | []=>none
 | c::r=>if c=70 then (fZ 4 r).bind fun a=>(dq a.2).bind fun x=>if a.1≤1000000000 then some (a.1,x.1,x.2) else none else none
def bp.outOf (S:bp) (K:Nat):List Bool:=(S.items.map (·.out)).getD K []
def bt (S:bp) (id:Nat) (ps:List Nat):Bool:=decide (1≤id) && decide (id≤S.items.length) && ps.all fun x=>decide (x < (S.outOf (id - 1)).length) && !((S.outOf (id - 1)).getD x false)
def bp.takesM (S:bp) (m:aX):Option bp:=if decide (m.id=S.items.length+1) && decide (S.time≤m.time) then some ⟨S.items++[⟨m,List.replicate m.tos.length false⟩],m.time⟩ else none
def bp.takesG (S:bp) (id:Nat) (ps:List Nat):Option bp:=if bt S id ps then some (S.outs (id - 1) ps) else none
def bp.takesF (S:bp) (T id:Nat) (ps:List Nat):Option bp:=if bt S id ps && decide (S.time≤T) then some ((S.outs (id - 1) ps).failed (S.mailOf (id - 1)) ps T) else none
theorem Bs (S:bp) (g:Nat) (f:List Nat):xZ S g f=(decide (1≤f.length) && bF f && bt S g f):=by
 unfold xZ bt bp.outOf;rw [FC,Bool.eq_iff_iff];simp only [Bool.and_eq_true]
 constructor
 ·rintro ⟨⟨⟨a,b⟩,c⟩,d,e⟩;exact ⟨⟨c,d⟩,⟨a,b⟩,e⟩
 ·rintro ⟨⟨c,d⟩,⟨a,b⟩,e⟩;exact ⟨⟨⟨a,b⟩,c⟩,d,e⟩
theorem Ds (n T:Nat) (m:aX):qp n T m=(dr m && (decide (m.id=n+1) && decide (T≤m.time))):=by
 unfold qp dr iH;rw [Bool.eq_iff_iff];simp only [Bool.and_eq_true]
 constructor
 ·rintro ⟨⟨⟨⟨⟨⟨⟨a,b⟩,c⟩,d⟩,e⟩,f⟩,g⟩,h⟩;exact ⟨⟨⟨⟨c,g⟩,⟨d,e⟩,h⟩,f⟩,a,b⟩
 ·rintro ⟨⟨⟨⟨c,g⟩,⟨d,e⟩,h⟩,f⟩,a,b⟩;exact ⟨⟨⟨⟨⟨⟨⟨a,b⟩,c⟩,d⟩,e⟩,f⟩,g⟩,h⟩
theorem DS (S:bp) (r:List UInt8):S.takes (77::r)=(bP (77::r)).bind S.takesM:=by
 have a:S.takes (77::r)=if qp S.items.length S.time (iL r) && (k9 (iL r) == 77::r) then some ⟨S.items++[⟨iL r,List.replicate (iL r).tos.length false⟩],(iL r).time⟩ else none:=by
  unfold bp.takes;simp only;rw [if_pos trivial]
 have b:bP (77::r)=(nk r).bind fun m=>if dr m then some m else none:=by
  unfold bP;simp only;rw [if_pos trivial]
 rw [a,b,Fp,Ds]
 by_cases h:k9 (iL r)=77::r
 ·rw [if_pos h,sb,h]
  cases c:dr (iL r) with
  | false=>simp
  | true=>
   simp only [Bool.true_and,beq_self_eq_true,Bool.and_true,if_true,sb];rfl
 ·rw [if_neg h];have:(k9 (iL r) == 77::r)=false:=by simpa using h
  rw [this,Bool.and_false];rfl
theorem vT (S:bp) (r:List UInt8):S.takes (71::r)=(dh (71::r)).bind fun x=>S.takesG x.1 x.2:=by
 have a:dh (71::r)=dq r:=by
  unfold dh;simp only;rw [if_pos trivial]
 rw [JA,a,dq,xT,Bs];show (if decide (1≤(bI r).2.length) && bF (bI r).2 && bt S (bI r).1 (bI r).2 && (71::aM (bI r).1 (bI r).2 == 71::r) then some (S.outs ((bI r).1 - 1) (bI r).2) else none)=((if aM (bI r).1 (bI r).2=r then some (bI r) else none).bind fun x=>if decide (1≤x.2.length) && bF x.2 then some x else none).bind fun x=>S.takesG x.1 x.2
 by_cases h:aM (bI r).1 (bI r).2=r
 ·rw [if_pos h,sb,h]
  cases b:(decide (1≤(bI r).2.length) && bF (bI r).2) with
  | false=>simp
  | true=>
   simp only [Bool.true_and,beq_self_eq_true,Bool.and_true,if_true,sb];rfl
 ·rw [if_neg h];have:(71::aM (bI r).1 (bI r).2 == 71::r)=false:=by simpa using h
  rw [this,Bool.and_false];rfl
theorem qB (S:bp) (r:List UInt8):S.takes (70::r)=(bS (70::r)).bind fun x=>S.takesF x.1 x.2.1 x.2.2:=by
 have i:bS (70::r)=(fZ 4 r).bind fun a=>(dq a.2).bind fun x=>if a.1≤1000000000 then some (a.1,x.1,x.2) else none:=by
  unfold bS;simp only;rw [if_pos trivial]
 rw [Jz,i]
 by_cases f:4≤r.length
 ·have c:fZ 4 r=some (be (r.take 4),r.drop 4):=by unfold fZ;rw [if_pos f]
  have k:az 4 (be (r.take 4))=r.take 4:=by
   have:=tP (r.take 4)
   rwa [show (r.take 4).length=4 by rw [List.length_take];omega] at this
  rw [c,sb,k];obtain ⟨T,j⟩:∃T,be (r.take 4)=T:=⟨_,rfl⟩;obtain ⟨q,d⟩:∃q,r.drop 4=q:=⟨_,rfl⟩;have g:r=r.take 4++q:=by rw [←d,List.take_append_drop]
  rw [j,d,dq,xT,Bs]
  show (if decide (1≤(bI q).2.length) && bF (bI q).2 && bt S (bI q).1 (bI q).2 && decide (S.time≤T) && decide (T≤1000000000) && (70::(r.take 4++aM (bI q).1 (bI q).2) == 70::r) then some ((S.outs ((bI q).1 - 1) (bI q).2).failed (S.mailOf ((bI q).1 - 1)) (bI q).2 T) else none)=
   (((if aM (bI q).1 (bI q).2=q then some (bI q) else none).bind fun x=>if decide (1≤x.2.length) && bF x.2 then some x else none).bind fun x=>if T≤1000000000 then some (T,x.1,x.2) else none).bind fun x=>S.takesF x.1 x.2.1 x.2.2
  by_cases h:aM (bI q).1 (bI q).2=q
  ·have l:(70::(r.take 4++aM (bI q).1 (bI q).2) == 70::r)=true:=by rw [h,←g];simp
   rw [if_pos h,sb,l]
   cases m:(decide (1≤(bI q).2.length) && bF (bI q).2) with
   | false=>simp
   | true=>
    simp only [Bool.true_and,Bool.and_true,if_true,sb]
    by_cases b:T≤1000000000
    ·rw [if_pos b,sb,decide_eq_true b,Bool.and_true];rfl
    ·rw [if_neg b,decide_eq_false b,Bool.and_false];rfl
  ·rw [if_neg h]
   have:(70::(r.take 4++aM (bI q).1 (bI q).2) == 70::r)=false:=by
    rw [beq_eq_false_iff_ne];intro e;injection e with _ e;exact h (List.append_cancel_left (e.trans g))
   rw [this,Bool.and_false];rfl
 ·have c:fZ 4 r=none:=by unfold fZ;rw [if_neg f]
  rw [c]
  have:(70::(az 4 (be (r.take 4))++aM (bI (r.drop 4)).1 (bI (r.drop 4)).2) == 70::r)=false:=by
   rw [beq_eq_false_iff_ne];intro e;injection e with _ e;have:=congrArg List.length e;rw [List.length_append,bf] at this;omega
  rw [this,Bool.and_false];rfl
theorem mj (S:bp) (l:List UInt8):S.takes l=
  match bP l with
  | some m=>S.takesM m
  | none=>match dh l with
   | some x=>S.takesG x.1 x.2
   | none=>match bS l with
    | some x=>S.takesF x.1 x.2.1 x.2.2
    | none=>none:=by
 cases l with
 | nil=>rfl
 | cons c r=>
  by_cases a:c=77
  ·subst a;rw [DS]
   cases e:bP (77::r) with
   | some m=>rfl
   | none=>rfl
  ·have f:bP (c::r)=none:=by unfold bP;simp only;rw [if_neg a]
   rw [f]
   by_cases b:c=71
   ·subst b;rw [vT]
    cases e:dh (71::r) with
    | some m=>rfl
    | none=>rfl
   ·have g:dh (c::r)=none:=by unfold dh;simp only;rw [if_neg b]
    simp only [g]
    by_cases d:c=70
    ·subst d;rw [qB]
     cases e:bS (70::r) with
     | some m=>rfl
     | none=>rfl
    ·have h:bS (c::r)=none:=by unfold bS;simp only;rw [if_neg d]
     simp only [h];unfold bp.takes;simp only;rw [if_neg a,if_neg b,if_neg d]
def dL (w:World) (q time:Nat) (frm:List UInt8) (v:Value) (body:List UInt8) (x:Int×Int):Prop:=w.heap[q]? =some (.cells #[.int .i64 time,.string (bs frm),v,.string (bs body),.int .i64 x.1,.int .i64 x.2] 158 (0,0))
def aR (l:List (Nat×List UInt8)):List Value:=l.flatMap fun x=>[.int .i64 x.1,.string (bs x.2)]
theorem lR:(Tryz.prog.info? 162).map (fun i=>(i.zero,i.size,i.bytes))=some (some (.agg #[.int .i64 0,.string ⟨#[]⟩]),2,24):=by kernel_rfl
theorem nH (a:List (List UInt8)):stay a (List.replicate a.length false)=(List.range a.length).map fun i=>(i,a.getD i []):=by
 unfold stay iW;rw [List.length_replicate]
 congr 1
 rw [List.filter_eq_self];intro i b;have:=List.mem_range.1 b;simp [List.getD_eq_getElem?_getD,this]
theorem oE (l:List (Nat×List UInt8)) (x:Nat×List UInt8):aR (l++[x])=aR l++[.int .i64 x.1,.string (bs x.2)]:=by simp [aR]
theorem kc (l:List (Nat×List UInt8)):(aR l).length=l.length * 2:=by
 induction l with
 | nil=>rfl
 | cons x l ih=>show ([_,_]++aR l).length=_;rw [List.length_append,ih];simp;omega
def mT (tos:List (List UInt8)) (k:Nat):List (Nat×List UInt8):=(List.range k).map fun i=>(i,tos.getD i [])
theorem AE (a:List (List UInt8)) (k:Nat):mT a (k+1)=mT a k++[(k,a.getD k [])]:=by simp [mT,List.range_succ]
theorem CG (a:List (List UInt8)) (k:Nat):(mT a k).length=k:=by simp [mT]
theorem IM {D:Array Value} {k n:Nat} {b:List Value} {x y:Value} (f:D.size=n * 2) (g:k < n) (e:b.length=k * 2) (h:D.toList.take (k * 2)=b):((D.setIfInBounds (k * 2) x).setIfInBounds (k * 2+1) y).toList.take ((k+1) * 2)=b++[x,y]:=by
 apply List.ext_getElem?;intro j;rw [List.getElem?_take];have d:∀i,D.toList[i]? =D[i]? :=fun i=>Array.getElem?_toList
 rcases Nat.lt_or_ge j (k * 2) with c | c
 ·rw [if_pos (by omega),List.getElem?_append_left (by omega),Array.getElem?_toList,Array.getElem?_setIfInBounds_ne (by omega),Array.getElem?_setIfInBounds_ne (by omega),←h,List.getElem?_take,if_pos c,d]
 ·rw [List.getElem?_append_right (by omega),e]
  rcases Nat.lt_or_ge j (k * 2+2) with a | a
  ·rw [if_pos (by omega),Array.getElem?_toList];obtain rfl | rfl:j=k * 2∨j=k * 2+1:=by omega
   ·rw [Array.getElem?_setIfInBounds_ne (by omega),Array.getElem?_setIfInBounds];simp;omega
   ·rw [Array.getElem?_setIfInBounds];rw [if_pos rfl];simp;omega
  ·rw [if_neg (by omega),List.getElem?_eq_none (by simp;omega)]
theorem rN (j:aX) (v:Value) (w:World) (h:bg w v j.tos.length 1 (cm j.tos)) (hz:dQ j):
  Calls Tryz.prog 220 #[.agg (aY j v)] w fun e z=>∃q g,e= .returned (.pointer (some ⟨q,0,none⟩))∧dL z q j.time j.frm (.slice (some ⟨g,0,none⟩) j.tos.length j.tos.length) j.body (j.time,0)∧w.heap.size≤q∧z.ownsRow w.heap.size 162 2 (.slice (some ⟨g,0,none⟩) j.tos.length j.tos.length) j.tos.length (aR (stay j.tos (List.replicate j.tos.length false)))∧Below w.heap.size w z:=by
 obtain ⟨E,f,l,c,d⟩:=j;obtain ⟨z1,z2,z3,z4,V,z6⟩:=hz;simp only at h z1 z2 z3 z4 V z6;obtain ⟨a,n,rfl,Z⟩:=h.one;simp only [aY];have HC:=Lib.hid Z;have T:=fun z=>Dc (P:=Tryz.prog) Tryz.underlying102 lR c.length (by omega) (by omega) z;obtain ⟨C,M⟩:∃C,madeCells (Value.agg #[.int .i64 0,.string ⟨#[]⟩]).cells (c.length * 2)=C:=⟨_,rfl⟩;have N:C.size=c.length * 2:=by rw [←M];simp [madeCells]
 rw [M] at T;obtain ⟨s,J⟩:∃s,w.heap.size=s:=⟨_,rfl⟩;obtain ⟨A,o⟩:∃A:World,(w.alloc (.cells #[.int .i64 E,.int .i64 f,.string (bs l),.slice a c.length n,.string (bs d)] 45)).alloc (.cells C 162)=A:=⟨_,rfl⟩;have H:Below s w (w.alloc (.cells #[.int .i64 E,.int .i64 f,.string (bs l),.slice a c.length n,.string (bs d)] 45)):=(Below.refl _ _).alloc (by omega) _;have B0:Hid (Below s w A):=Lib.hid (by rw [←o];exact H.alloc (by simp;omega) _)
 have X0:Hid (gu A s E f l (.slice a c.length n) d):=Lib.hid (by
  unfold gu;rw [←o,←J,((Below.refl (w.alloc (.cells #[.int .i64 E,.int .i64 f,.string (bs l),.slice a c.length n,.string (bs d)] 45)).heap.size _).alloc (Nat.le_refl _) _).block w.heap.size (by simp)]
  exact heap_alloc_new w _)
 have G0:Hid (A.heap[s+1]? =some (.cells C 162 (0,0))):=Lib.hid (by
  rw [←o,←J];have:=heap_alloc_new (w.alloc (.cells #[.int .i64 E,.int .i64 f,.string (bs l),.slice a c.length n,.string (bs d)] 45)) (.cells C 162)
  simpa using this)
 have Z0:Hid (A.heap.size=s+2):=Lib.hid (by rw [←o,←J];simp);have K:=Lib.hid o;have p:=Lib.hid J;have a1:=Lib.hid V;clear h Z V H o M;go_enter Tryz.func220,Tryz.ntmps220;go_wp2_with fail
 rw [K.out];go_loopw [13] (fun i z=>∃(k:Nat) (D:Array Value),k≤c.length∧i= .int .i64 k∧D.size=c.length * 2∧Hid (D.toList.take (k * 2)=aR (mT c k))∧Hid (z.heap[s+1]? =some (.cells D 162 (0,0)))∧Hid (aL (s+1) A z)) (fun i _=>c.length - (intOf i).toNat)
 case atStart=>exact ⟨0,C,Nat.zero_le _,rfl,N,Lib.hid rfl,G0,Lib.hid (aL.refl _ _)⟩
 case round=>
  obtain ⟨k,D,hk,rfl,O,X,B,I⟩:=hrel;have W:Hid (Below s w wr):=Lib.hid (B0.out.trans (I.out.below (by omega)))
  by_cases r:k < c.length
  ·have a0:(k:Int) < (c.length:Int):=by omega
   obtain ⟨b,U,rfl,Q,m⟩:=HC.out k r;rw [eh c k r] at m;have R:wr.cell? ⟨b,U+k,none⟩=some (.string (bs c[k])):=(W.out.cell (by show b < s;rw [←p.out];exact Q)).trans m;have F:Hid (mT c (k+1)=mT c k++[(k,c[k])]):=Lib.hid (by rw [AE,List.getD_eq_getElem?_getD,List.getElem?_eq_getElem r];rfl);obtain ⟨t,Y⟩:∃t,c[k]=t:=⟨_,rfl⟩;rw [Y] at R F;have x0:∃u,wr.cell? ⟨s+1,k * 2,none⟩=some u:=by rw [Lib.cell_of_heap B.out];exact ⟨_,Array.getElem?_eq_getElem (by omega)⟩
   have x1:∃u,wr.cell? ⟨s+1,k * 2+1,none⟩=some u:=by rw [Lib.cell_of_heap B.out];exact ⟨_,Array.getElem?_eq_getElem (by omega)⟩
   obtain ⟨u0,x0⟩:=x0;obtain ⟨u1,x1⟩:=x1;have y0:=Lib.frozen_of_heap B.out (k * 2);have y1:=Lib.frozen_of_heap B.out (k * 2+1);have HN:=Lib.hid (IM (x:= .int .i64 k) (y:= .string (bs t)) O r (by rw [kc,CG]) X.out);clear Y m;go_wp2_with fail
   have h1:=heap_setCell_same wr (s+1) (k * 2) _ _ (.int .i64 k) B.out;have h2:=heap_setCell_same _ (s+1) (k * 2+1) _ _ (.string (bs t)) h1;exact ⟨⟨k+1,_,by omega,by go_num,by simp [O],Lib.hid (by rw [HN.out,F.out,oE]),Lib.hid h2,Lib.hid ((I.out.setCell _).setCell _)⟩,by simp [intOf];omega⟩
  ·have S:k=c.length:=by omega
   subst S;have L:Hid (gu wr s E f l (.slice a c.length n) d):=Lib.hid (X0.out.same I.out (by omega));have k1:wr.cell? ⟨s,1,none⟩=some (.int .i64 f):=(L.out.cell 1).1;have k2:wr.cell? ⟨s,2,none⟩=some (.string (bs l)):=(L.out.cell 2).1;have k4:wr.cell? ⟨s,4,none⟩=some (.string (bs d)):=(L.out.cell 4).1;have z9:wr.heap.size=s+2:=I.out.1.trans Z0.out;have G:=Lib.hid z9;go_wp2_with fail
   go_ret;refine ⟨s+2,s+1,?_,?_,by rw [p.out];omega,?_,?_⟩
   ·rfl
   ·unfold dL;rw [←G.out];exact heap_alloc_new wr _
   ·rw [p.out];refine World.ownsRow.alloc ?_ _;refine ⟨by rw [kc,nH];simp,.inr ⟨s+1,c.length,D,rfl,by omega,B.out,Nat.le_refl _,by unfold maxLen;omega,O,?_⟩⟩
    rw [X.out,nH];rfl
   ·rw [p.out];exact W.out.alloc (by rw [G.out];omega) _
theorem lY (l:List Nat) (k:Nat) (h:k < l.length):(aZ l)[k]? =some (.int .i64 (l[k]:Int)):=by simp [aZ,h]
theorem wX {l:List Nat} {t:Nat} {k:Nat} (b:k < l.length) (h:t ∉ l.take k) (c:¬t=l[k]):t ∉ l.take (k+1):=by
 rw [List.take_succ_eq_append_getElem b,List.mem_append,List.mem_singleton];rintro (a | a)
 ·exact h a
 ·exact c a
theorem ze (l:List Nat) (t:Nat) (v:Value) (w:World) (h:bg w v l.length 1 (aZ l)) (z:l.length≤255):
  Calls Tryz.prog 283 #[v,.int .i64 (t:Int)] w fun e x=>∃r:Int,e= .returned (.int .i64 r)∧(-1≤r∧r≤255)∧(0≤r ↔ t∈l)∧w=x:=by
 obtain ⟨a,q,rfl,n⟩:=h.one;have p:=Lib.hid n;clear n h;go_enter Tryz.func283,Tryz.ntmps283;go_wp2_with fail
 go_loop [8] (fun i=>∃k:Nat,k≤l.length∧i= .int .i64 k∧Hid (t ∉ l.take k)) (fun i=>l.length - (intOf i).toNat)
 case atStart=>exact ⟨0,Nat.zero_le _,rfl,Lib.hid (by simp)⟩
 case round=>
  obtain ⟨k,y,rfl,m⟩:=hrel
  by_cases c:k < l.length
  ·have o:(k:Int) < (l.length:Int):=by omega
   obtain ⟨b,u,rfl,_,d⟩:=p.out k c;rw [lY l k c] at d
   by_cases g:t=l[k]
   ·have s:((t:Int) == (l[k]:Int))=true:=by rw [g];simp
    have f:Hid (t∈l):=Lib.hid (by rw [g];exact List.getElem_mem c);clear g;go_wp2_with fail
    go_ret;exact ⟨_,rfl,by omega,⟨fun _=>f.out,fun _=>by omega⟩,rfl⟩
   ·have s:((t:Int) == (l[k]:Int))=false:=by rw [beq_eq_false_iff_ne];omega
    have f:=Lib.hid (wX c m.out g);clear g;go_wp2_with fail
    exact ⟨⟨k+1,by omega,by go_num,f⟩,by simp [intOf];omega⟩
  ·have j:k=l.length:=by omega
   subst j
   have f:Hid (t ∉ l):=Lib.hid (by
    have:=m.out
    rwa [List.take_length] at this)
   go_wp2_with fail
   go_ret;exact ⟨_,rfl,by omega,⟨fun h=>by omega,fun h=>absurd h f.out⟩,rfl⟩
theorem sv (l:List Nat) (t:Nat) (v:Value) (w:World) (h:bg w v l.length 1 (aZ l)) (g:l.length≤255):
  Calls Tryz.prog 259 #[v,.int .i64 (t:Int)] w fun e i=>e= .returned (.bool (l.contains t))∧w=i:=by
 have c:=ze l t v w h g;obtain ⟨a,f,rfl,_⟩:=h.one;clear h;go_enter Tryz.func259,Tryz.ntmps259;go_wp2_with fail
 refine c.mono ?_;rintro e k ⟨r,rfl,j,b,rfl⟩;have d:Hid (decide (0≤r)=l.contains t):=Lib.hid (by rw [Bool.eq_iff_iff,decide_eq_true_iff,List.contains_iff_mem];exact b);clear b c;go_wp2_with fail
 go_ret;exact ⟨cG d.out,rfl⟩
theorem dP (l:List (Nat×List UInt8)) (k:Nat) (h:k < l.length):(aR l)[k * 2]? =some (.int .i64 (l[k].1:Int))∧(aR l)[k * 2+1]? =some (.string (bs l[k].2)):=by
 induction l generalizing k with
 | nil=>simp at h
 | cons x l ih=>
  show ([Value.int .i64 (x.1:Int),.string (bs x.2)]++aR l)[k * 2]? =_∧([Value.int .i64 (x.1:Int),.string (bs x.2)]++aR l)[k * 2+1]? =_
  cases k with
  | zero=>exact ⟨rfl,rfl⟩
  | succ k=>
   have:=ih k (by simpa using h);rw [List.getElem?_append_right (by simp only [List.length_cons,List.length_nil];omega),List.getElem?_append_right (by simp only [List.length_cons,List.length_nil];omega)];simp only [List.length_cons,List.length_nil];rw [show (k+1) * 2 - (0+1+1)=k * 2 by omega,show (k+1) * 2+1 - (0+1+1)=k * 2+1 by omega]
   exact this
def dx (l:List (Nat×List UInt8)) (ps:List Nat):List (List UInt8):=(l.filter fun r=>ps.contains r.1).map (·.2)
def bM (l:List (Nat×List UInt8)) (ps:List Nat):List (Nat×List UInt8):=l.filter fun r=> !(ps.contains r.1)
theorem FE (l:List (Nat×List UInt8)) (a:List Nat) (k:Nat) (h:k < l.length):(a.contains l[k].1=true→dx (l.take (k+1)) a=dx (l.take k) a++[l[k].2]∧bM (l.take (k+1)) a=bM (l.take k) a)∧(a.contains l[k].1=false→dx (l.take (k+1)) a=dx (l.take k) a∧bM (l.take (k+1)) a=bM (l.take k) a++[l[k]]):=by
 unfold dx bM;rw [List.take_succ_eq_append_getElem h,List.filter_append,List.filter_append]
 constructor
 ·intro e;simp only [List.filter_cons,e,List.filter_nil,Bool.not_true,if_true,Bool.false_eq_true,if_false,List.append_nil,List.map_append];exact ⟨rfl,trivial⟩
 ·intro e;simp only [List.filter_cons,e,List.filter_nil,Bool.not_false,if_true,Bool.false_eq_true,if_false,List.append_nil];exact ⟨trivial,trivial⟩
theorem mV (l:List (Nat×List UInt8)) (a:List Nat):(dx l a).length≤l.length:=by unfold dx;rw [List.length_map];exact List.length_filter_le _ _
theorem Iz (l:List (Nat×List UInt8)) (a:List Nat):(bM l a).length≤l.length:=List.length_filter_le _ _
theorem Eg {i s f:World} {a n m B d:Nat} {e j:TypeId} {x y:Value} {C t:List Value} (A:i.ownsRow a e B x n C) (r:i.ownsRow a j d y m t) (o:j≠e) (w:Below i.heap.size i s) (b:s.grownBy f x.ownBlock):f.ownsRow a j d y m t:=by
 refine (dG (cJ.below (ts:=[]) w) (by simp) r).kept b ?_
 rcases r.2 with ⟨h,_⟩ | ⟨g,u,v,h,_,z,_⟩
 ·subst h;exact .inl rfl
 ·refine .inr fun c=>?_
  rcases A.2 with ⟨k,_⟩ | ⟨D,p,q,k,_,l,_⟩
  ·rw [k,h] at c;cases c
  ·rw [k,h] at c;injection c with c;exact DQ z l o c
theorem oA (C q y:Nat) (J p:List UInt8) (v vp:Value) (l:List (Nat×List UInt8)) (d:List Nat) (x:Int×Int) (w:World) (h:dL w q y J v p x) (_:C≤q) (hv:w.ownsRow C 162 2 v l.length (aR l)) (hp:bg w vp d.length 1 (aZ d)) (hl:l.length≤255) (b5:d.length≤255):
  Calls Tryz.prog 223 #[.pointer (some ⟨q,0,none⟩),vp] w fun e D=>∃vn vs,e= .returned vn∧D.ownsRow w.heap.size 9 1 vn (dx l d).length (cm (dx l d))∧dL D q y J vs p x∧D.ownsRow w.heap.size 162 2 vs (bM l d).length (aR (bM l d))∧sc q w D:=by
 obtain ⟨a,I,rfl,_⟩:=hp.one;have HP:=Lib.hid hp;have HV:=Lib.hid hv;have HH:=Lib.hid h;have k2:w.cell? ⟨q,2,none⟩=some v:=by rw [Lib.cell_of_heap h];rfl
 obtain ⟨av,cv,rfl⟩:∃a c,v= .slice a l.length c:=by
  rcases hv.2 with ⟨e,h0⟩ | ⟨g,I,W,e,_⟩
  ·exact ⟨_,_,by rw [h0];exact e⟩
  ·exact ⟨_,_,e⟩
 obtain ⟨s,hs⟩:∃s,w.heap.size=s:=⟨_,rfl⟩;have f:=Lib.hid hs;obtain ⟨is,b2,a5,a6,a7⟩:=info_parts nR;obtain ⟨ir,b1,a2,a3,a4⟩:=info_parts lR;have N:q < s:=by rw [←hs];exact sZ h
 clear h hv hp hs;go_enter Tryz.func223,Tryz.ntmps223;go_wp2_with fail
 go_loopw [5,6,14] (fun vn vs i D=>∃k:Nat,k≤l.length∧i= .int .i64 k∧Hid (D.ownsRow s 9 1 vn (dx (l.take k) d).length (cm (dx (l.take k) d)))∧Hid (D.ownsRow s 162 2 vs (bM (l.take k) d).length (aR (bM (l.take k) d)))∧Hid (Below s w D)) (fun _ _ i _=>l.length - (intOf i).toNat)
 case atStart=>exact ⟨0,Nat.zero_le _,rfl,Lib.hid (World.ownsRow_nil _ _ _ _),Lib.hid (World.ownsRow_nil _ _ _ _),Lib.hid (by rw [←f.out];exact Below.refl _ _)⟩
 case round=>
  obtain ⟨k,O,rfl,S,n,z⟩:=hrel
  by_cases M:k < l.length
  ·have b8:(k:Int) < (l.length:Int):=by omega
   have m:=Lib.hid (FE l d k M);have Y:=mV (l.take k) d;have Z:=Iz (l.take k) d;rw [List.length_take] at Y Z;obtain ⟨G,eG⟩:∃G,dx (l.take k) d=G:=⟨_,rfl⟩;obtain ⟨R,eR⟩:∃R,bM (l.take k) d=R:=⟨_,rfl⟩;rw [eG] at S Y m;rw [eR] at n Z m
   obtain ⟨g,rfl,c0,c1⟩:∃g,av=some ⟨g,0,none⟩∧w.cell? ⟨g,k * 2,none⟩=some (.int .i64 (l[k].1:Int))∧w.cell? ⟨g,k * 2+1,none⟩=some (.string (bs l[k].2)):=by
    rcases HV.out.2 with ⟨_,h0⟩ | ⟨g,cp,W,e,_,hg,_,_,_,a0⟩
    ·omega
    ·injection e with e1 _ _;refine ⟨g,e1,?_,?_⟩
     ·rw [Lib.cell_of_heap hg,←Array.getElem?_toList,←List.getElem?_take_of_lt (show k * 2 < l.length * 2 by omega),a0];exact (dP l k M).1
     ·rw [Lib.cell_of_heap hg,←Array.getElem?_toList,←List.getElem?_take_of_lt (show k * 2+1 < l.length * 2 by omega),a0];exact (dP l k M).2
   have d0:wr.cell? ⟨g,k * 2,none⟩=some (.int .i64 (l[k].1:Int)):=(z.out.cell (by show g < s;rw [←f.out];exact eI c0)).trans c0;have d1:wr.cell? ⟨g,k * 2+1,none⟩=some (.string (bs l[k].2)):=(z.out.cell (by show g < s;rw [←f.out];exact eI c1)).trans c1;obtain ⟨x,ex⟩:∃x,l[k]=x:=⟨_,rfl⟩;rw [ex] at d0 d1 m;obtain ⟨P,T⟩:=x;simp only at d0 d1;have b7:s≤wr.heap.size:=by have:=z.out.size;have:=f.out;omega
   obtain ⟨o,B⟩:∃o:World,wr.alloc (.cells #[.int .i64 (P:Int),.string (bs T)] 162)=o:=⟨_,rfl⟩;have r:Below wr.heap.size wr o:=by rw [←B];exact (Below.refl _ _).alloc (Nat.le_refl _) _
   have L:o.heap[wr.heap.size]? =some (.cells #[.int .i64 (P:Int),.string (bs T)] 162 (0,0)):=by rw [←B];exact heap_alloc_new wr _
   have p0:o.cell? ⟨wr.heap.size,0,none⟩=some (.int .i64 (P:Int)):=by rw [Lib.cell_of_heap L];rfl
   have p1:o.cell? ⟨wr.heap.size,1,none⟩=some (.string (bs T)):=by rw [Lib.cell_of_heap L];rfl
   have BW:Hid (Below s w o):=Lib.hid (z.out.trans (r.mono b7));have A:=Lib.hid (sv d P (.slice a d.length I) o (HP.out.below (by rw [f.out];exact BW.out)) b5);have F:=dG (cJ.below (ts:=[]) r) (by simp) S.out;have H:=dG (cJ.below (ts:=[]) r) (by simp) n.out;have a1:s≤o.heap.size:=by have:=r.size;omega
   have U:=Lib.hid B;have c6:=Lib.hid F;have c7:=Lib.hid H;clear B r L ex c0 c1 eG eR S n z
   cases Q:d.contains P with
   | true=>
    obtain ⟨q1,q2⟩:=m.out.1 Q;have Q1:=Lib.hid q1;have Q2:=Lib.hid q2;rw [Q] at A;clear q1 q2 m Q;go_wp2_with fail
    rw [U.out];refine A.out.mono ?_;rintro e w2 ⟨rfl,rfl⟩
    go_wp2_with (first
     | (at_builtin;refine wpList_append_own _ rfl _ _ 25 rfl s 9 is (.string ⟨#[]⟩) 1 16 Tryz.underlying25 b2 a5 a6 a7 rfl (by decide) _ _ _ rfl (F.alloc _) ⟨o.heap.size,0,none⟩ 1 1 [.string (bs T)] rfl rfl ?c1 ?c2 ?c3 ?c4 ?c5 ?_)
     | fail)
    case c1=>exact World.news_of_block (cs:=#[.string (bs T)]) (t:=9) (fr:=(0,0)) (heap_alloc_new o _)
    case c2=>intro u hu;simp at hu;subst hu;rfl
    case c3=>unfold maxLen;omega
    case c4=>omega
    case c5=>simp;omega
    ·intro v' w4 j b _;have b0:=Lib.hid (Eg F H (by decide) ((Below.refl _ _).alloc (Nat.le_refl _) _) b);have K:=Lib.hid ((BW.out.alloc a1 _).grown b (by simp;omega) (fun k O=>(F.lt k O).1));have E:=Lib.hid j;clear j b F H;go_wp2_with fail
     exact ⟨⟨k+1,by omega,by go_num,Lib.hid (by rw [Q1.out];simpa [cm] using E.out),Lib.hid (by rw [Q2.out];exact b0.out),K⟩,by simp [intOf];omega⟩
   | false=>
    obtain ⟨q1,q2⟩:=m.out.2 Q;have Q1:=Lib.hid q1;have Q2:=Lib.hid q2;rw [Q] at A;clear q1 q2 m Q;go_wp2_with fail
    rw [U.out];refine A.out.mono ?_;rintro e w2 ⟨rfl,rfl⟩
    go_wp2_with (first
     | (at_builtin;refine wpList_append_own _ rfl _ _ 102 rfl s 162 ir _ 2 24 Tryz.underlying102 b1 a2 a3 a4 rfl (by decide) _ _ _ rfl (H.alloc _) ⟨o.heap.size,0,none⟩ 1 1 [.int .i64 (P:Int),.string (bs T)] rfl rfl ?c1 ?c2 ?c3 ?c4 ?c5 ?_)
     | fail)
    case c1=>exact World.news_of_block (cs:=#[.int .i64 (P:Int),.string (bs T)]) (t:=162) (fr:=(0,0)) (heap_alloc_new o _)
    case c2=>intro u hu;simp at hu;rcases hu with rfl | rfl <;> rfl
    case c3=>unfold maxLen;omega
    case c4=>omega
    case c5=>simp;omega
    ·intro v' w4 j b _;have a9:=Lib.hid (Eg H F (by decide) ((Below.refl _ _).alloc (Nat.le_refl _) _) b);have K:=Lib.hid ((BW.out.alloc a1 _).grown b (by simp;omega) (fun k O=>(H.lt k O).1));have E:=Lib.hid j;clear j b F H;go_wp2_with fail
     exact ⟨⟨k+1,by omega,by go_num,Lib.hid (by rw [Q1.out];exact a9.out),Lib.hid (by rw [Q2.out,oE,List.length_append];exact E.out),K⟩,by simp [intOf];omega⟩
  ·have b3:k=l.length:=by omega
   subst b3;rw [List.take_length] at S n
   have hP:dL wr q y J (.slice av l.length cv) p x:=by
    have:=HH.out;unfold dL at this ⊢;rw [z.out.block q N];exact this
   have m2:∃u,wr.cell? ⟨q,2,none⟩=some u:=⟨_,by rw [Lib.cell_of_heap hP];rfl⟩
   obtain ⟨u2,m2⟩:=m2;have f2:=Lib.frozen_of_heap hP 2;have a8:=Lib.hid hP
   obtain ⟨gs,V,e6⟩:∃a c,u6= .slice a (bM l d).length c:=by
    rcases n.out.2 with ⟨e,h0⟩ | ⟨g,I,W,e,_⟩
    ·exact ⟨_,_,by rw [h0];exact e⟩
    ·exact ⟨_,_,e⟩
   subst e6;clear hP;go_wp2_with fail
   go_ret;have b6:=heap_setCell_same wr q 2 _ _ (.slice gs (bM l d).length V) a8.out;have X:aL q wr (wr.setCell ⟨q,2,none⟩ (.slice gs (bM l d).length V)):=(aL.refl _ _).setCell _;refine ⟨u5,.slice gs (bM l d).length V,rfl,?_,b6,?_,?_⟩
   ·rw [f.out];exact dJ S.out X N
   ·rw [f.out];exact dJ n.out X N
   ·exact ⟨by rw [X.1];exact z.out.size,fun k O b4=>(X.2 k b4).trans (z.out.block k (by rw [←f.out];exact O)),(dU.of_below z.out).trans X.3⟩
def bp.stayOf (S:bp) (i:Nat):List (Nat×List UInt8):=stay (S.mailOf i).tos (S.outOf i)
def bp.live (S:bp):List Nat:=(List.range S.items.length).filter fun i=> !(S.stayOf i).isEmpty
def bp.plus (S:bp) (m:aX):bp:=⟨S.items++[⟨m,List.replicate m.tos.length false⟩],m.time⟩
theorem kd {S:bp} {i:Nat} (h:i < S.items.length):S.mailOf i=S.items[i].m:=by
 unfold bp.mailOf;rw [List.getElem?_eq_getElem h];rfl
theorem Ig {S:bp} {i:Nat} (h:i < S.items.length):S.outOf i=S.items[i].out:=by
 unfold bp.outOf;rw [List.getD_eq_getElem?_getD,List.getElem?_map,List.getElem?_eq_getElem h];rfl
theorem gT {S:bp} {i:Nat} (h:i < S.items.length):S.stayOf i=stay S.items[i].m.tos S.items[i].out:=by
 unfold bp.stayOf;rw [kd h,Ig h]
theorem rb {S:bp} {i:Nat} (h:S.items.length≤i):S.stayOf i=[]:=by
 unfold bp.stayOf bp.outOf;rw [List.getD_eq_getElem?_getD,List.getElem?_eq_none (by rw [List.length_map];exact h)];rfl
theorem jT {S:bp} {i:Nat}:i∈S.live ↔ i < S.items.length∧S.stayOf i≠[]:=by
 unfold bp.live;rw [List.mem_filter,List.mem_range];simp
theorem gJ (S:bp):S.live.Nodup:=List.Pairwise.filter _ List.nodup_range
theorem bq {S:bp} {i:Nat} (h:i∈S.live):i < S.items.length:=(jT.1 h).1
theorem zo {S:bp} {i:Nat} (h:S.stayOf i≠[]):i∈S.live:=by
 refine jT.2 ⟨?_,h⟩
 rcases Nat.lt_or_ge i S.items.length with a | a
 ·exact a
 ·exact absurd (rb a) h
theorem dv (S:bp) (m:aX):(S.plus m).items.length=S.items.length+1:=by simp [bp.plus]
theorem je {S:bp} {m:aX} {i:Nat} (h:i < S.items.length):(S.plus m).mailOf i=S.mailOf i:=by
 rw [kd h,kd (by rw [dv];omega)];simp only [bp.plus];rw [List.getElem_append_left h]
theorem jU {S:bp} {m:aX} {i:Nat} (h:i < S.items.length):(S.plus m).stayOf i=S.stayOf i:=by
 rw [gT h,gT (by rw [dv];omega)];simp only [bp.plus];rw [List.getElem_append_left h]
theorem dN (S:bp) (m:aX):(S.plus m).mailOf S.items.length=m:=by
 rw [kd (by rw [dv];omega)];simp [bp.plus]
theorem mB (S:bp) (m:aX):(S.plus m).stayOf S.items.length=stay m.tos (List.replicate m.tos.length false):=by
 rw [gT (by rw [dv];omega)];simp [bp.plus]
theorem BM {m:aX} (h:1≤m.tos.length):stay m.tos (List.replicate m.tos.length false)≠[]:=by
 rw [nH];intro e;have:=congrArg List.length e;simp only [List.length_map,List.length_range,List.length_nil] at this;omega
theorem lz {S:bp} {m:aX} (h:1≤m.tos.length):(S.plus m).live=S.live++[S.items.length]:=by
 unfold bp.live;rw [dv,List.range_succ,List.filter_append]
 congr 1
 ·apply List.filter_congr;intro i a;rw [jU (List.mem_range.1 a)]
 ·rw [List.filter_cons,mB,if_pos]
  ·rfl
  ·have:=BM h;simpa using this
theorem bL (S:bp) (K:Nat) (a:List Nat):(S.outs K a).items.length=S.items.length:=by simp [bp.outs]
theorem mo (S:bp) (K:Nat) (a:List Nat) (i:Nat):(S.outs K a).mailOf i=S.mailOf i:=by
 unfold bp.mailOf bp.outs;rw [List.getElem?_modify]
 by_cases h:K=i
 ·subst h
  cases S.items[K]? <;> simp
 ·simp [h]
theorem il {S:bp} {K i:Nat} {a:List Nat} (h:i≠K):(S.outs K a).stayOf i=S.stayOf i:=by
 unfold bp.stayOf;rw [mo]
 congr 1
 unfold bp.outOf bp.outs;rw [List.getD_eq_getElem?_getD,List.getD_eq_getElem?_getD,List.getElem?_map,List.getElem?_map,List.getElem?_modify];simp [Ne.symm h]
theorem jc {S:bp} {K:Nat} {a:List Nat} (h:K < S.items.length):(S.outs K a).stayOf K=bM (S.stayOf K) a:=by
 rw [gT (by rw [bL];exact h),gT h];unfold bM;rw [←rV]
 have b:(S.outs K a).items[K]'(by rw [bL];exact h)=⟨S.items[K].m,jV S.items[K].out a⟩:=by
  simp [bp.outs]
 rw [b]
theorem jz {S:bp} {K:Nat} {a:List Nat} (h:K∈S.live) (b:bM (S.stayOf K) a≠[]):(S.outs K a).live=S.live:=by
 unfold bp.live;rw [bL];apply List.filter_congr;intro i c
 by_cases e:i=K
 ·subst e;have:=(jT.1 h).2;rw [jc (bq h)];rw [Bool.eq_iff_iff];simp [b,this]
 ·rw [il e]
theorem jy {S:bp} {K:Nat} {a:List Nat} (h:K∈S.live) (b:bM (S.stayOf K) a=[]):(S.outs K a).live=S.live.filter fun i=>decide (i≠K):=by
 unfold bp.live;rw [bL,List.filter_filter];apply List.filter_congr;intro i c
 by_cases e:i=K
 ·subst e;rw [jc (bq h),b];simp
 ·rw [il e];simp [e]
theorem db {S:bp} {a:Nat} {b:List Nat} (g:1≤b.length):bt S a b=(decide (1≤a∧a - 1∈S.live) && b.all fun x=>(S.stayOf (a - 1)).any fun r=>decide (r.1=x)):=by
 unfold bt bp.stayOf;simp only [BN];obtain ⟨B,d⟩:∃B,(b.all fun x=>decide (x < (S.outOf (a - 1)).length) && !((S.outOf (a - 1)).getD x false))=B:=⟨_,rfl⟩;rw [d]
 cases B with
 | false=>simp
 | true=>
  rw [Bool.and_true,Bool.and_true,Bool.eq_iff_iff];simp only [Bool.and_eq_true,decide_eq_true_eq]
  constructor
  ·rintro ⟨c,f⟩;refine ⟨c,jT.2 ⟨by omega,?_⟩⟩
   obtain ⟨x,h⟩:∃x,x∈b:=by
    cases b with
    | nil=>simp at g
    | cons x l=>exact ⟨x,by simp⟩
   have:=List.all_eq_true.1 d x h;rw [←BN (S.mailOf (a - 1)).tos] at this;intro e;unfold bp.stayOf at e;rw [e] at this;simp at this
  ·rintro ⟨c,f⟩;have:=bq f;exact ⟨c,by omega⟩
structure bp.Ok (S:bp):Prop where
 id:∀i (h:i < S.items.length),S.items[i].m.id=i+1
 sz:∀x∈S.items,dQ x.m∧1≤x.m.tos.length∧x.m.tos.length≤10∧x.out.length=x.m.tos.length
theorem bp.Ok.nil (T:Nat):bp.Ok ⟨[],T⟩:=⟨fun i h=>by simp at h,fun x h=>by simp at h⟩
theorem bp.Ok.plus {S:bp} (h:S.Ok) {m:aX} (f:m.id=S.items.length+1) (g:dQ m) (c:1≤m.tos.length) (d:m.tos.length≤10):(S.plus m).Ok:=by
 refine ⟨fun i b=>?_,fun x a=>?_⟩
 ·rw [dv] at b
  by_cases e:i < S.items.length
  ·simp only [bp.plus];rw [List.getElem_append_left e];exact h.id i e
  ·obtain rfl:i=S.items.length:=by omega
   simp [bp.plus,f]
 ·simp only [bp.plus,List.mem_append,List.mem_singleton] at a
  rcases a with a | rfl
  ·exact h.sz x a
  ·exact ⟨g,c,d,by simp⟩
theorem bp.Ok.outs {S:bp} (h:S.Ok) (K:Nat) (j:List Nat):(S.outs K j).Ok:=by
 refine ⟨fun i g=>?_,fun x l=>?_⟩
 ·rw [bL] at g;have f:=mo S K j i;rw [kd (by rw [bL];exact g),kd g] at f;rw [f];exact h.id i g
 ·obtain ⟨i,g,rfl⟩:=List.getElem_of_mem l;have e:i < S.items.length:=by rwa [bL] at g
  obtain ⟨a,b,c,d⟩:=h.sz S.items[i] (List.getElem_mem e)
  have f:((S.outs K j).items[i]).m=S.items[i].m:=by
   have f:=mo S K j i
   rwa [kd (by rw [bL];exact e),kd e] at f
  have k:((S.outs K j).items[i]).out.length=S.items[i].out.length:=by
   simp only [bp.outs,List.getElem_modify]
   split
   ·rw [uS]
   ·rfl
  rw [f,k];exact ⟨a,b,c,d⟩
theorem bp.Ok.time {S:bp} (h:S.Ok) (T:Nat):bp.Ok ⟨S.items,T⟩:=⟨h.id,h.sz⟩
theorem dk {S:bp} (h:S.Ok) (i:Nat):(S.stayOf i).length≤10:=by
 rcases Nat.lt_or_ge i S.items.length with a | a
 ·rw [gT a];unfold stay;rw [List.length_map];have:=uF S.items[i].out S.items[i].out.length;have:=h.sz S.items[i] (List.getElem_mem a);omega
 ·rw [rb a];simp
def fH.pot (x:fH):Nat:=(stay x.m.tos x.out).length * (if x.m.frm=[] then 1 else 2)
def bp.pot (S:bp):Nat:=(S.items.map fH.pot).sum
theorem vJ (f:fH→fH) (g:fH→Nat):∀(l:List fH) (k:Nat) (h:k < l.length),((l.modify k f).map g).sum+g l[k]=(l.map g).sum+g (f l[k])
 | [],_,h=>by simp at h
 | x::l,0,_=>by simp [List.modify];omega
 | x::l,k+1,h=>by
  have:=vJ f g l k (by simpa using h);simp only [List.modify_succ_cons,List.map_cons,List.sum_cons,List.getElem_cons_succ];omega
theorem Ip (S:bp) (m:aX):(S.plus m).pot=S.pot+m.tos.length * (if m.frm=[] then 1 else 2):=by
 unfold bp.pot bp.plus;rw [List.map_append,List.sum_append];simp only [List.map_cons,List.map_nil,List.sum_cons,List.sum_nil,Nat.add_zero,fH.pot];rw [nH,List.length_map,List.length_range]
theorem IA {l:List (Nat×List UInt8)} {ps:List Nat} {x:Nat} (c:x∈ps) (h:(l.any fun r=>decide (r.1=x))=true):(bM l ps).length+1≤l.length:=by
 obtain ⟨r,b,e⟩:=List.any_eq_true.1 h;have e:r.1=x:=by simpa using e
 unfold bM;refine Nat.lt_of_le_of_ne (List.length_filter_le _ _) (fun a=>?_);have:=(List.length_filter_eq_length_iff.1 a) r b;rw [e] at this;simp at this;exact this c
theorem Bu {S:bp} {a:Nat} {b:List Nat} (g:1≤b.length) (f:bt S a b=true):(S.outs (a - 1) b).pot+(if (S.mailOf (a - 1)).frm=[] then 1 else 2)≤S.pot:=by
 rw [db g,Bool.and_eq_true,decide_eq_true_eq] at f;obtain ⟨⟨_,m⟩,k⟩:=f;have c:=bq m
 obtain ⟨x,h⟩:∃x,x∈b:=by
  cases b with
  | nil=>simp at g
  | cons x l=>exact ⟨x,by simp⟩
 have n:=IA h (List.all_eq_true.1 k x h);have d:=vJ (fun x=>⟨x.m,jV x.out b⟩) fH.pot S.items (a - 1) c
 have i:fH.pot ⟨S.items[a - 1].m,jV S.items[a - 1].out b⟩=(bM (S.stayOf (a - 1)) b).length * (if (S.mailOf (a - 1)).frm=[] then 1 else 2):=by
  unfold fH.pot;rw [kd c,gT c];unfold bM;rw [←rV]
 have j:fH.pot S.items[a - 1]=(S.stayOf (a - 1)).length * (if (S.mailOf (a - 1)).frm=[] then 1 else 2):=by
  unfold fH.pot;rw [kd c,gT c]
 rw [i,j] at d;show ((S.items.modify (a - 1) _).map fH.pot).sum+_≤(S.items.map fH.pot).sum
 split at d
 ·rename_i e;rw [if_pos e];omega
 ·rename_i e;rw [if_neg e];omega
theorem ya {S d:bp} {T b:Nat} {c:List Nat} (j:1≤c.length) (a:S.takesF T b c=some d):d.pot+1≤S.pot∧d.items.length+d.pot≤S.items.length+S.pot∧d.time=T:=by
 unfold bp.takesF at a
 split at a
 ·rename_i g
  rw [Bool.and_eq_true] at g;have f:=Bu j g.1;have i:=bL S (b - 1) c;injection a with a;unfold bp.failed at a
  split at a
  ·rename_i e
   rw [if_pos e] at f;subst a;have k:(bp.mk (S.outs (b - 1) c).items T).pot=(S.outs (b - 1) c).pot:=rfl;have l:(bp.mk (S.outs (b - 1) c).items T).items.length=S.items.length:=i;exact ⟨by omega,by omega,rfl⟩
  ·rename_i e
   rw [if_neg e] at f;subst a;refine ⟨?_,?_,rfl⟩
   all_goals
    simp only [bp.pot,List.map_append,List.sum_append,List.map_cons,List.map_nil,List.sum_cons,List.sum_nil,List.length_append,List.length_cons,List.length_nil];have h:fH.pot ⟨⟨(S.outs (b - 1) c).items.length+1,T,[],[(S.mailOf (b - 1)).frm],Ai (S.mailOf (b - 1)).tos c⟩,[false]⟩=1:=rfl;rw [h];unfold bp.pot at f;omega
 ·cases a
def zP (S:bp) (recs:List UInt8):Prop:=∃M,M≤1000000∧M≤recs.length∧S.items.length+S.pot≤M∧recs.length+200 * S.pot≤201 * M
theorem zP.items {S:bp} {a:List UInt8} (h:zP S a):S.items.length≤1000000:=by
 obtain ⟨M,b,c,d,e⟩:=h;omega
theorem zP.len {S:bp} {a:List UInt8} (h:zP S a):a.length≤201000000:=by
 obtain ⟨M,b,c,d,e⟩:=h;omega
theorem zP.nil (T:Nat):zP ⟨[],T⟩ []:=⟨0,by omega,by simp,by simp [bp.pot],by simp [bp.pot]⟩
theorem zP.plus {S:bp} {a l:List UInt8} {m:aX} (h:zP S a) (k:m.tos.length≤10) (i:21+m.tos.length≤l.length) (j:a.length+l.length≤1000000):zP (S.plus m) (a++l):=by
 obtain ⟨M,c,d,f,g⟩:=h;have e:=Ip S m;have b:m.tos.length * (if m.frm=[] then 1 else 2)≤m.tos.length * 2:=Nat.mul_le_mul_left _ (by split <;> omega)
 refine ⟨M+l.length,by omega,by rw [List.length_append];omega,by rw [dv];omega,?_⟩
 rw [List.length_append];omega
theorem zP.less {S b:bp} {a l:List UInt8} (h:zP S a) (g:b.pot+1≤S.pot) (i:b.items.length+b.pot≤S.items.length+S.pot) (j:l.length≤200):zP b (a++l):=by
 obtain ⟨M,c,d,e,f⟩:=h;exact ⟨M,c,by rw [List.length_append];omega,by omega,by rw [List.length_append];omega⟩
theorem F4 (l:List (List UInt8)):l.length≤(eE l).length:=by
 induction l with
 | nil=>simp
 | cons t l ih=>
  show (t::l).length≤(jC t++eE l).length;rw [List.length_append,yi,List.length_cons];omega
theorem GL (m:aX):21+m.tos.length≤(bJ (k9 m)).length:=by
 have:=F4 m.tos;unfold bJ k9;simp only [List.length_append,List.length_cons,bf,yi];omega
theorem pM {b T:Nat} {a:List Nat} (h:a.length≤100):(bJ (71::aM b a)).length≤200∧(bJ (70::(az 4 T++aM b a))).length≤200:=by
 unfold bJ aM;simp only [List.length_append,List.length_cons,bf,jd];omega
end Go.Proofs.YtofpegbpgkkgkaaGreatDoor
