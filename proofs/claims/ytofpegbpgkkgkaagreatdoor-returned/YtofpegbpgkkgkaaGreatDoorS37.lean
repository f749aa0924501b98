import Derived.Test.YtofpegbpgkkgkaaGreatDoorS31
namespace Go.Proofs.YtofpegbpgkkgkaaGreatDoor
set_option maxHeartbeats 8000000
set_option maxRecDepth 1000000
def ny:Option bG→Nat
 | none=>0
 | some s=>(IL s).length
def GS.pot (g:GS):Nat:=g.S.pot+2 * (g.l.map ny).sum
theorem KO (x:bp×List UInt8) (i:Nat) (a:List Nat):(jr x i a).1.pot≤x.1.pot:=by
 unfold jr
 split
 ·exact Nat.le_refl _
 ·rename_i e
  cases h:x.1.takesF x.1.time (i+1) a with
  | none=>exact Nat.le_refl _
  | some S'=>
   have:=(ya (List.length_pos_iff.2 e) h).1;show S'.pot≤_;omega
theorem tN (a:Int):∀(l:List Nat) (x:bp×List UInt8),(dw a x l).1.pot≤x.1.pot
 | [],x=>Nat.le_refl _
 | i::l,x=>by
  refine Nat.le_trans (tN a l (kW a x i)) ?_;unfold kW
  split
  ·exact KO _ _ _
  ·exact Nat.le_refl _
theorem KR {S:bp} {recs:List UInt8} {t:aQ} (c:t.i∈S.live) (d:dC (S.stayOf t.i) t):(cV S recs t).1.pot≤S.pot∧(t.took true≠[]→(cV S recs t).1.pot+1≤S.pot):=by
 have a:(i7 (S,recs) t.i (t.took true)).1.pot≤S.pot∧(t.took true≠[]→(i7 (S,recs) t.i (t.took true)).1.pot+1≤S.pot):=by
  unfold i7
  split
  ·rename_i e
   exact ⟨Nat.le_refl _,fun x=>absurd e x⟩
  ·rename_i e
   have f:bt S (t.i+1) (t.took true)=true:=Dd c (List.length_pos_iff.2 e) (fun p g=>d.sub p (by unfold aQ.act;exact List.mem_append.2 (.inr (ob g))));have h:=Bu (List.length_pos_iff.2 e) f;rw [Nat.add_sub_cancel] at h;have i:1≤(if (S.mailOf t.i).frm=[] then 1 else 2):=by split <;> omega
   show (S.outs t.i (t.took true)).pot≤_∧(_→(S.outs t.i (t.took true)).pot+1≤_);exact ⟨by omega,fun _=>by omega⟩
 have b:=KO (i7 (S,recs) t.i (t.took true)) t.i (t.took false);unfold cV kR;exact ⟨Nat.le_trans b a.1,fun e=>Nat.le_trans (Nat.succ_le_succ b) (a.2 e)⟩
def sn (S:bp):Prop:=∀x∈S.items,x.m.time≤S.time
theorem sn.plus {S:bp} (h:sn S) {m:aX} (b:S.time≤m.time):sn (S.plus m):=fun x a=>by
 rcases List.mem_append.1 (show x∈S.items++[_] from a) with a | a
 ·exact Nat.le_trans (h x a) b
 ·rw [List.mem_singleton.1 a];exact Nat.le_refl _
theorem sn.outs {S:bp} (h:sn S) (i:Nat) (c:List Nat):sn (S.outs i c):=fun x a=>by
 have a:x∈S.items.modify i (fun x=>⟨x.m,jV x.out c⟩):=a;obtain ⟨k,b,e⟩:=List.getElem_of_mem a;rw [List.getElem_modify] at e;rw [List.length_modify] at b;have:=h _ (List.getElem_mem b)
 split at e
 ·rw [←e];exact this
 ·rw [←e];exact this
theorem sn.fail {x:bp×List UInt8} (h:sn x.1) (i:Nat) (c:List Nat):sn (jr x i c).1:=by
 unfold jr
 split
 ·exact h
 ·cases b:x.1.takesF x.1.time (i+1) c with
  | none=>exact h
  | some S'=>
   show sn S';unfold bp.takesF at b
   split at b
   ·injection b with b;rw [←b];unfold bp.failed;have d:=h.outs (i+1 - 1) c
    split
    ·exact fun y a=>d y a
    ·intro y a
     rcases List.mem_append.1 a with a | a
     ·exact d y a
     ·rw [List.mem_singleton.1 a];exact Nat.le_refl _
   ·cases b
theorem sn.gone {x:bp×List UInt8} (h:sn x.1) (i:Nat) (a:List Nat):sn (i7 x i a).1:=by
 unfold i7
 split
 ·exact h
 ·exact h.outs i a
theorem sn.ticks (a:Int):∀(l:List Nat) {x:bp×List UInt8},sn x.1→sn (dw a x l).1
 | [],x,h=>h
 | i::l,x,h=>by
  refine sn.ticks a l (x:=kW a x i) ?_;unfold kW
  split
  ·exact h.fail _ _
  ·exact h
theorem sn.mail {S:bp} (h:sn S) {i:Nat} (a:i < S.items.length):(S.mailOf i).time≤S.time:=by
 rw [kd a];exact h _ (List.getElem_mem a)
structure KM (g:GS):Prop where
 tm:sn g.S
 due:∀i∈g.S.live,(g.d i).1≤g.S.time+5
theorem KM.new {g:GS} (h:KM g) {a:bp} (d:sn a) (f:g.S.time≤a.time) (c:∀i∈a.live,i < g.S.items.length→i∈g.S.live):∀i∈a.live,(oS g.S a g.d i).1≤a.time+5:=fun i b=>by
 unfold oS
 split
 ·rename_i e
  have:=h.due i (c i b e);omega
 ·have:=d.mail (bq b);show (((a.mailOf i).time:Nat):Int)≤_;omega
def tT (p:List UInt8):Prop:=∀j,hZ p j=false
theorem KE (s:List UInt8) (j:Nat):Lib.occAt s [13,10] j=hZ s j:=by
 have c:s[j]? =(s.drop j)[0]? :=by rw [List.getElem?_drop];rfl
 have d:s[j+1]? =(s.drop j)[1]? :=by rw [List.getElem?_drop]
 unfold Lib.occAt hZ;rw [c,d]
 rcases s.drop j with _ | ⟨a,_ | ⟨b,t⟩⟩
 ·rfl
 ·simp [List.isPrefixOf]
 ·rw [Bool.eq_iff_iff];simp only [List.isPrefixOf,Bool.and_true,Bool.and_eq_true,beq_iff_eq,List.getElem?_cons_zero,List.getElem?_cons_succ,Option.some.injEq]
  constructor <;> rintro ⟨e,f⟩ <;> exact ⟨e.symm,f.symm⟩
theorem pa (x a:List UInt8) {r:List (List UInt8)} (h:r≠[]):Lib.join (x::r) a=x++a++Lib.join r a:=by
 cases r with
 | nil=>exact absurd rfl h
 | cons y r=>rw [Lib.join_cons,Lib.join_cons];simp [Lib.joinTail]
theorem KH (a:ByteArray) (k:Nat) (s:ByteArray):Lib.splitB a 0 k s≠[]:=by
 cases k with
 | zero=>rw [Lib.splitB_zero];simp
 | succ k=>unfold Lib.splitB;split <;> simp
theorem Lt {s:List UInt8} (h:Lib.index s [13,10]= -1):tT s:=fun j=>by
 rcases Lib.index_spec s [13,10] with ⟨_,a⟩ | ⟨i,a,_⟩
 ·by_cases b:j≤s.length
  ·rw [←KE];exact a j b
  ·unfold hZ;rw [List.getElem?_eq_none (by omega)];rfl
 ·omega
theorem LD:∀(k:Nat) (s:ByteArray),Lib.countB s oo=k→(∀p∈Lib.splitB oo 0 k s,tT p.data.toList)∧Lib.join ((Lib.splitB oo 0 k s).map (·.data.toList)) [13,10]=s.data.toList:=by
 intro k
 induction k with
 | zero=>
  intro s y
  rcases Lib.indexB_cases s oo with a | ⟨i,a,_⟩
  ·rw [Lib.splitB_zero];refine ⟨fun p d=>?_,?_⟩
   ·rw [List.mem_singleton.1 d];exact Lt a
   ·rw [List.map_cons,List.map_nil,Lib.join_one]
  ·have:=Lib.countB_hit s oo i (by decide) a;omega
 | succ k ih=>
  intro s y
  rcases Lib.indexB_cases s oo with a | ⟨i,a,n⟩
  ·have:=Lib.countB_miss s oo a;omega
  ·have A:=Lib.countB_hit s oo i (by decide) a;obtain ⟨u,v⟩:=ih (s.extract (i+oo.size) s.size) (by omega);have q:oo.size=2:=rfl;have o:Lib.index s.data.toList [13,10]=i:=a;rw [Lib.splitB_hit oo 0 k s i a]
   rcases Lib.index_spec s.data.toList [13,10] with ⟨w,_⟩ | ⟨e,w,z,f,x⟩
   ·omega
   ·have t:e=i:=by omega
    subst t;rw [KE] at f;refine ⟨fun p d=>?_,?_⟩
    ·rcases List.mem_cons.1 d with d | d
     ·rw [d,Lib.extract_from_zero,Nat.add_zero];intro j
      by_cases B:j+1 < e
      ·have g:=x j (by omega);rw [KE] at g;unfold hZ at g ⊢;rw [List.getElem?_take_of_lt (by omega),List.getElem?_take_of_lt (by omega)];exact g
      ·unfold hZ;rw [List.getElem?_eq_none (l:=s.data.toList.take e) (i:=j+1) (by rw [List.length_take];omega),Bool.and_eq_false_iff];exact .inr rfl
     ·exact u p d
    ·rw [List.map_cons,pa _ _ (by simpa using KH oo k _),v,Lib.extract_from_zero,Lib.extract_to_end,Nat.add_zero,q];unfold hZ at f;rw [Bool.and_eq_true,beq_iff_eq,beq_iff_eq] at f;obtain ⟨b,c⟩:=f;obtain ⟨m,c⟩:=List.getElem?_eq_some_iff.1 c;obtain ⟨h,b⟩:=List.getElem?_eq_some_iff.1 b;rw [List.append_assoc]
     have r:([13,10]:List UInt8)++s.data.toList.drop (e+2)=s.data.toList.drop e:=by
      rw [List.drop_eq_getElem_cons h,List.drop_eq_getElem_cons m,b,c];rfl
     rw [r,List.take_append_drop]
def py (p:List UInt8):List UInt8:=if Lib.hasPrefix p [46] then 46::p else p
theorem Lb (x:ByteArray):(ky x).data.toList=py x.data.toList:=by
 unfold ky py
 split
 ·simp
 ·rfl
def Ld (ls:List (List UInt8)):List UInt8:=ls.flatMap (·++[13,10])
def ax (P:List (List UInt8)):List UInt8:=Ld (P.map py)++[46]
theorem KP:∀{P:List (List UInt8)},P≠[]→Lib.join P [13,10]++[13,10]=Ld P
 | [],h=>absurd rfl h
 | [p],_=>by rw [Lib.join_one];simp [Ld]
 | p::q::P,_=>by
  rw [pa p _ (by simp),List.append_assoc,KP (by simp)];simp [Ld]
structure LH (body:List UInt8) (P:List (List UInt8)):Prop where
 ne:P≠[]
 no:∀p∈P,tT p
 all:Lib.join P [13,10]=body
 sent:mD body++[13,10]++[46]=ax P
theorem Lz (a:List UInt8):∃P,LH a P:=by
 obtain ⟨c,d⟩:=LD _ (bs a) rfl;have b:(l9 a).map (·.data.toList)≠[]:=by unfold l9;simpa using KH oo _ (bs a)
 refine ⟨(l9 a).map (·.data.toList),b,fun p f=>?_,?_,?_⟩
 ·obtain ⟨x,g,rfl⟩:=List.mem_map.1 f;exact c x g
 ·unfold l9;rw [d];rfl
 ·unfold ax mD;rw [←KP (by simpa using b),List.map_map,List.map_map];have e:(fun x:ByteArray=>x.data.toList) ∘ ky=py ∘ (fun x:ByteArray=>x.data.toList):=funext Lb;rw [e]
theorem KK {l:List UInt8} (h:tT l) (r:List UInt8):gf (l++[13,10]++r)=(l,r):=by
 rw [List.append_assoc,yh (k:=l.length)]
 ·rw [List.take_left' rfl,←List.drop_drop,List.drop_left' rfl];rfl
 ·unfold hZ;rw [List.getElem?_append_right (Nat.le_refl _),List.getElem?_append_right (show l.length≤l.length+1 from Nat.le_succ _),Nat.sub_self,Nat.add_sub_cancel_left];rfl
 ·intro j a;have:=h j;unfold hZ at this ⊢;rw [List.getElem?_append_left a]
  by_cases e:j+1 < l.length
  ·rw [List.getElem?_append_left e];exact this
  ·rw [List.getElem?_append_right (by omega),show j+1 - l.length=0 by omega,Bool.and_eq_false_iff]
   exact .inr rfl
theorem KI (p:List UInt8) (P:List (List UInt8)):(py p).length+2+(ax P).length=(ax (p::P)).length:=by
 unfold ax Ld;rw [List.map_cons,List.flatMap_cons];simp only [List.length_append,List.length_cons,List.length_nil];omega
def KA (i:Nat) (L:List (Nat×List UInt8)) (k:Nat):aQ:=if k=0 then ⟨i,2,L,[],[]⟩ else ⟨i,3,L.drop (k - 1),L.take (k - 1),[]⟩
def pq (i:Nat) (L:List (Nat×List UInt8)):aQ:=⟨i,6,[],L,L.map fun x=>(x.1,true)⟩
def K8 (n:List UInt8):List UInt8:=[82,67,80,84,32,84,79,58,60]++n++[62]
def KZ (n:List UInt8):List UInt8:=[77,65,73,76,32,70,82,79,77,58,60]++n++[62]
section
variable (c:bX) (S:bp) (i:Nat) {L:List (Nat×List UInt8)}
theorem LF:Gn c S ⟨i,0,L,[],[]⟩ 220=(⟨i,1,L,[],[]⟩,([69,72,76,79,32]++cQ c)++yQ):=rfl
theorem LG:Gn c S ⟨i,1,L,[],[]⟩ 250=(KA i L 0,KZ (S.mailOf i).frm++yQ):=rfl
end
theorem LC (S:bp) (i:Nat):dC (S.stayOf i) (pq i (S.stayOf i)):=by
 have h:=uL S i
 have b:(jM S i).act=(S.stayOf i).map (·.1):=by
  rw [lG (by show 0≠6;omega)];show (S.stayOf i++[]).map (fun y:Nat×List UInt8=>y.1)++[]=_;rw [List.append_nil,List.append_nil]
 have e:(pq i (S.stayOf i)).act=(S.stayOf i).map (·.1):=by
  rw [Kf (by rfl)];show ((S.stayOf i).map fun x:Nat×List UInt8=>(x.1,true)).map (fun y:Nat×Bool=>y.1)=_;rw [List.map_map];rfl
 exact ⟨Nat.le_refl 6,(by show 6=3→_;omega),by rw [e,←b];exact h.nd,by rw [e];exact fun x a=>a,by rw [e,List.length_map];exact Nat.le_refl _,fun x a=>a⟩
theorem Lr (i:Nat) (L:List (Nat×List UInt8)):(∀x,x∈(pq i L).took true ↔ x∈L.map (·.1))∧(pq i L).took false=[]:=by
 have d:((pq i L).came.filter fun x=>x.2 == true).map (·.1)=L.map (·.1):=by
  have:(pq i L).came.filter (fun x=>x.2 == true)=L.map fun x=>(x.1,true):=by
   show (L.map fun x=>(x.1,true)).filter _=_;rw [List.filter_eq_self];intro a b;obtain ⟨y,_,rfl⟩:=List.mem_map.1 b;rfl
  rw [this,List.map_map];rfl
 have e:(pq i L).came.filter (fun x=>x.2 == false)=[]:=by
  show (L.map fun x=>(x.1,true)).filter _=_;rw [List.filter_eq_nil_iff];intro a b;obtain ⟨y,_,rfl⟩:=List.mem_map.1 b;simp
 refine ⟨fun x=>by rw [(oc _ _).mem_iff,d],?_⟩
 unfold aQ.took;rw [e];simp
structure Ln (c:bX) (T0:Nat) (g:GS):Prop where
 good:KS c g
 tm:sn g.S
 due:∀i∈g.S.live,(g.d i).1≤T0+5
 tk:g.tk=none
 t0:T0≤g.S.time
 t5:g.S.time≤T0+5
def GS.mu (T0:Nat) (g:GS):Nat:=g.S.pot+(T0+5 - g.S.time)
section
variable {c:bX} {T0:Nat} {g:GS}
theorem Ln.new (h:Ln c T0 g) {a:bp} (f:sn a) (j:a.time≤T0+5) (d:∀i∈a.live,i < g.S.items.length→i∈g.S.live):∀i∈a.live,(oS g.S a g.d i).1≤T0+5:=fun i b=>by
 unfold oS
 split
 ·rename_i e
  exact h.due i (d i b e)
 ·have:=f.mail (bq b);show (((a.mailOf i).time:Nat):Int)≤_;omega
theorem KD {S b:bp} (h:iB S b):∀i∈b.live,i < S.items.length→i∈S.live:=fun i d a=>by
 refine zo fun e=>?_;obtain ⟨r,f⟩:=List.exists_mem_of_ne_nil _ (jT.1 d).2;have:=h.stay i a r f;rw [e] at this
 cases this
theorem Ln.tick (p:ij c=true) (h:Ln c T0 g) (t:T0≤999999000) (f:g.S.live≠[]) (q:∀i∈g.S.live,(g.S.time:Int) < (g.d i).1):Ln c T0 (yj c g (g.S.time+1))∧(yj c g (g.S.time+1)).mu T0+1≤g.mu T0∧(yj c g (g.S.time+1)).S.time=g.S.time+1∧g.S.time+1≤1000000000:=by
 have k:g.S.time+1≤T0+5:=by
  obtain ⟨i,b⟩:=List.exists_mem_of_ne_nil _ f;have:=q i b;have:=h.due i b;omega
 have j:vo c g (yj c g (g.S.time+1)):= .tick g _ ⟨Nat.le_succ _,by omega⟩ h.tk
 obtain ⟨u,_,a,o⟩:=lB (x:=((⟨g.S.items,g.S.time+1⟩:bp),g.recs)) ⟨h.good.sok.ok.time _,h.good.sok.led,by show g.S.time+1≤_;omega⟩ c.life (l:=g.S.live) (fun i b=>b) (gJ g.S) g.S.live.length (Nat.le_refl _)
 rw [List.take_length] at a o;have n:sn (yj c g (g.S.time+1)).S:=sn.ticks c.life g.S.live (x:=((⟨g.S.items,g.S.time+1⟩:bp),g.recs)) (fun y s=>Nat.le_trans (h.tm y s) (Nat.le_succ _));have a:(yj c g (g.S.time+1)).S.time=g.S.time+1:=a;have r:∀i∈(yj c g (g.S.time+1)).S.live,i < g.S.items.length→i∈g.S.live:=fun i b d=>KD o i b d;refine ⟨⟨(h.good.step p j),n,h.new n (by rw [a];exact k) r,h.tk,by rw [a];have:=h.t0;omega,by rw [a];exact k⟩,?_,a,by omega⟩
 have m:=tN c.life g.S.live ((⟨g.S.items,g.S.time+1⟩:bp),g.recs);have e:(⟨g.S.items,g.S.time+1⟩:bp).pot=g.S.pot:=rfl;have m:(yj c g (g.S.time+1)).S.pot≤g.S.pot:=m;unfold GS.mu;rw [a];omega
theorem Ln.over (H:ij c=true) (h:Ln c T0 g) {i:Nat} (q:i∈g.S.live):Ln c T0 (Bt c {g with tk:=some (pq i (g.S.stayOf i))} (pq i (g.S.stayOf i)))∧(Bt c {g with tk:=some (pq i (g.S.stayOf i))} (pq i (g.S.stayOf i))).mu T0+1≤g.mu T0∧(Bt c {g with tk:=some (pq i (g.S.stayOf i))} (pq i (g.S.stayOf i))).S.time=g.S.time:=by
 have b:=LC g.S i;obtain ⟨A,E⟩:=Lr i (g.S.stayOf i)
 have k:KS c {g with tk:=some (pq i (g.S.stayOf i))}:=⟨h.good.sok,h.good.ses,fun t f=>by
  injection f with f;rw [←f]
  exact ⟨q,b⟩⟩
 have m:vo c {g with tk:=some (pq i (g.S.stayOf i))} (Bt c {g with tk:=some (pq i (g.S.stayOf i))} (pq i (g.S.stayOf i))):= .over _ _ rfl;obtain ⟨t,D⟩:∃t,pq i (g.S.stayOf i)=t:=⟨_,rfl⟩;have d:t.i=i:=by rw [←D];rfl
 rw [D] at b A E k m ⊢;have n:∀z,∀p∈t.took z,p∈(g.S.stayOf i).map (·.1):=fun z p s=>b.sub p (by unfold aQ.act;exact List.mem_append.2 (.inr (ob s)));have J:(g.S.stayOf i).length≤10:=dk h.good.sok.ok i;obtain ⟨_,B,_,C,_⟩:=kS (x:=(g.S,g.recs)) (gs:=t.took true) (fs:=t.took false) h.good.sok q (by have:=kF b true;omega) (by have:=kF b false;omega) (jg (iu b _)) (n _) (n _) (fun p F G=>mn b F G)
 have o:(Bt c {g with tk:=some t} t).S=(kR (g.S,g.recs) i (t.took true) (t.took false)).1:=by
  show (cV g.S g.recs t).1=_;unfold cV;rw [d]
 have l:iB g.S (Bt c {g with tk:=some t} t).S:=by rw [o];exact B.later.trans C.later
 have a:(Bt c {g with tk:=some t} t).S.time=g.S.time:=by rw [o];exact C.aft.time.trans B.aft.time
 have f:sn (Bt c {g with tk:=some t} t).S:=by rw [o];exact sn.fail (sn.gone (x:=(g.S,g.recs)) h.tm _ _) _ _
 have w:(Bt c {g with tk:=some t} t).S.stayOf i=[]:=by
  rw [o,C.stay,B.stay,E,BO];unfold bM;rw [List.filter_eq_nil_iff];intro r y;rw [Bool.not_eq_true',←Bool.not_eq_true,Classical.not_not,List.contains_iff_mem,A];exact List.mem_map_of_mem y
 have I:=h.new f (by rw [a];exact h.t5) (KD l);refine ⟨⟨(k.step H m),f,fun j u=>?_,rfl,by rw [a];exact h.t0,by rw [a];exact h.t5⟩,?_,a⟩
 ·show (Aw g.S (cV g.S g.recs t).1 g.d t c.waits j).1≤_;unfold Aw
  split
  ·rename_i e
   rw [e,d] at u;exact absurd w (jT.1 u).2
  ·exact I j u
 ·have v:t.took true≠[]:=fun e=>by
   obtain ⟨r,y⟩:=List.exists_mem_of_ne_nil _ (jT.1 q).2;have:=(A r.1).2 (List.mem_map_of_mem y);rw [e] at this
   cases this
  have s:=(KR (S:=g.S) (recs:=g.recs) (t:=t) (by rw [d];exact q) (by rw [d];exact b)).2 v;have s:(Bt c {g with tk:=some t} t).S.pot+1≤g.S.pot:=s;unfold GS.mu;rw [a];omega
end
theorem Lf:∀(P:List (List UInt8)),P≠[]→(Lib.join P [13,10]).length+2=Lib.lens P+2 * P.length
 | [],h=>absurd rfl h
 | x::r,_=>by
  rw [Lib.join_length];show 2 * r.length+Lib.lens (x::r)+2=Lib.lens (x::r)+2 * (r.length+1);omega
theorem Kz:∀(P:List (List UInt8)),(ax P).length≤Lib.lens P+3 * P.length+1
 | []=>by decide
 | p::P=>by
  rw [←KI];have b:=Kz P;have d:(py p).length≤p.length+1:=by unfold py;split <;> simp
  have a:Lib.lens (p::P)=p.length+Lib.lens P:=by simp [Lib.lens]
  rw [a,List.length_cons];omega
theorem LH.short {a:List UInt8} {P:List (List UInt8)} (h:LH a P):(ax P).length≤2 * a.length+4:=by
 have b:=Lf P h.ne;rw [h.all] at b;have d:=Kz P;omega
def ks (L:List (Nat×List UInt8)) (cd:Nat→Nat):Nat→List (Nat×List UInt8)
 | 0=>[]
 | k+1=>ks L cd k++(if cd k=250 then (L[k]?).toList else [])
def mc (L:List (Nat×List UInt8)) (cd:Nat→Nat):Nat→List (Nat×List UInt8)
 | 0=>[]
 | k+1=>mc L cd k++(if cd k=550 then (L[k]?).toList else [])
def LU (l:List (Nat×List UInt8)):List (Nat×Bool):=l.map fun x=>(x.1,false)
def Mo (l:List (Nat×List UInt8)):List (Nat×Bool):=l.map fun x=>(x.1,true)
def MP:List UInt8:=[68,65,84,65]
def MD:List UInt8:=[81,85,73,84]
def Mm (i:Nat) (L:List (Nat×List UInt8)) (cd:Nat→Nat) (k:Nat):aQ:=
 if k < L.length then ⟨i,3,L.drop k,ks L cd k,LU (mc L cd k)⟩ else if ks L cd k=[] then ⟨i,6,[],[],LU (mc L cd k)⟩ else ⟨i,4,[],ks L cd k,LU (mc L cd k)⟩
def MR (L:List (Nat×List UInt8)) (cd:Nat→Nat) (k:Nat):List UInt8:=match L[k]? with
 | some r=>K8 r.2
 | none=>if ks L cd k=[] then MD else MP
def MW (i:Nat) (L:List (Nat×List UInt8)) (cd:Nat→Nat):aQ:=⟨i,6,[],ks L cd L.length,LU (mc L cd L.length)++Mo (ks L cd L.length)⟩
def Mu (cd:Nat→Nat):Prop:=∀k,cd k=250∨cd k=550∨cd k=450∨cd k=451
section
variable (c:bX) (S:bp) (i:Nat) {L:List (Nat×List UInt8)} {cd:Nat→Nat}
theorem M8 {k:Nat} (b:k≤L.length) (s:Nat):(⟨i,s,L.drop k,ks L cd k,LU (mc L cd k)⟩:aQ).ask=(Mm i L cd k,MR L cd k++yQ):=by
 unfold aQ.ask Mm MR
 by_cases h:k < L.length
 ·rw [if_pos h,List.getElem?_eq_getElem h];simp only [List.drop_eq_getElem_cons h];rfl
 ·have e:L.drop k=[]:=List.drop_eq_nil_of_le (by omega);rw [if_neg h,List.getElem?_eq_none (by omega),e];simp only
  by_cases a:ks L cd k=[]
  ·rw [if_pos a,if_pos a,if_pos a,a];rfl
  ·rw [if_neg a,if_neg a,if_neg a];rfl
theorem NB:Gn c S ⟨i,2,L,[],[]⟩ 250=(Mm i L cd 0,MR L cd 0++yQ):=by
 have:=M8 i (L:=L) (cd:=cd) (Nat.zero_le _) 2;exact this
theorem Ni (h:Mu cd) {k:Nat} (d:k < L.length):Gn c S (Mm i L cd k) (cd k)=(Mm i L cd (k+1),MR L cd (k+1)++yQ):=by
 have m:Mm i L cd k=⟨i,3,L.drop k,ks L cd k,LU (mc L cd k)⟩:=by unfold Mm;rw [if_pos d]
 have j:(L.drop k).take 1=[L[k]]:=by rw [List.drop_eq_getElem_cons d];rfl
 have b:(L.drop k).drop 1=L.drop (k+1):=List.drop_drop;have l:(L[k]?).toList=[L[k]]:=by rw [List.getElem?_eq_getElem d];rfl
 rw [m];have a:=M8 i (L:=L) (cd:=cd) (k:=k+1) d 3;have r:ks L cd (k+1)=ks L cd k++(if cd k=250 then (L[k]?).toList else []):=rfl;have q:mc L cd (k+1)=mc L cd k++(if cd k=550 then (L[k]?).toList else []):=rfl;have n:Gn c S ⟨i,3,L.drop k,ks L cd k,LU (mc L cd k)⟩ 250=(⟨i,3,(L.drop k).drop 1,ks L cd k++(L.drop k).take 1,LU (mc L cd k)⟩:aQ).ask:=rfl;have o:Gn c S ⟨i,3,L.drop k,ks L cd k,LU (mc L cd k)⟩ 550=(⟨i,3,(L.drop k).drop 1,ks L cd k,LU (mc L cd k)++LU ((L.drop k).take 1)⟩:aQ).ask:=rfl;have f:Gn c S ⟨i,3,L.drop k,ks L cd k,LU (mc L cd k)⟩ 450=(⟨i,3,(L.drop k).drop 1,ks L cd k,LU (mc L cd k)⟩:aQ).ask:=rfl;have g:Gn c S ⟨i,3,L.drop k,ks L cd k,LU (mc L cd k)⟩ 451=(⟨i,3,(L.drop k).drop 1,ks L cd k,LU (mc L cd k)⟩:aQ).ask:=rfl;have p:LU (mc L cd k++[L[k]])=LU (mc L cd k)++LU [L[k]]:=by unfold LU;rw [List.map_append]
 rw [←a,r,q]
 rcases h k with e | e | e | e
 ·rw [e,n,j,b,if_pos rfl,if_neg (show ¬(250:Nat)=550 by decide),l,List.append_nil]
 ·rw [e,o,j,b,if_neg (show ¬(550:Nat)=250 by decide),if_pos rfl,l,List.append_nil,p]
 ·rw [e,f,b,if_neg (show ¬(450:Nat)=250 by decide),if_neg (show ¬(450:Nat)=550 by decide),List.append_nil,List.append_nil]
 ·rw [e,g,b,if_neg (show ¬(451:Nat)=250 by decide),if_neg (show ¬(451:Nat)=550 by decide),List.append_nil,List.append_nil]
theorem Nh (a:ks L cd L.length=[]):Mm i L cd L.length=MW i L cd∧MR L cd L.length=MD:=by
 unfold Mm MR MW;rw [if_neg (Nat.lt_irrefl _),if_pos a,List.getElem?_eq_none (Nat.le_refl _),a];simp only [if_true];refine ⟨?_,trivial⟩;show _=(⟨i,6,[],[],LU (mc L cd L.length)++[]⟩:aQ);rw [List.append_nil]
theorem Ng (a:ks L cd L.length≠[]):Mm i L cd L.length=⟨i,4,[],ks L cd L.length,LU (mc L cd L.length)⟩∧MR L cd L.length=MP:=by
 unfold Mm MR;rw [if_neg (Nat.lt_irrefl _),if_neg a,List.getElem?_eq_none (Nat.le_refl _)];simp only [if_neg a];exact ⟨trivial,trivial⟩
theorem Nf (W:List (Nat×List UInt8)) (C:List (Nat×Bool)):Gn c S ⟨i,4,[],W,C⟩ 354=(⟨i,5,[],W,C⟩,(mD (S.mailOf i).body++[13,10]++[46])++yQ):=rfl
theorem Nv (W:List (Nat×List UInt8)) (C:List (Nat×Bool)):Gn c S ⟨i,5,[],W,C⟩ 250=(⟨i,6,[],W,C++Mo W⟩,MD++yQ):=rfl
end
open Go.RowKit
theorem MC {l:List UInt8} (h:∀x∈l,x≠13):tT l:=fun j=>by
 unfold hZ;rw [Bool.and_eq_false_iff]
 left
 rw [beq_eq_false_iff_ne];intro e;obtain ⟨a,e⟩:=List.getElem?_eq_some_iff.1 e;exact h _ (List.getElem_mem a) e
def nn (us:List (List UInt8)):List UInt8:=match us with
 | []=>[]
 | u::us=>u++us.flatMap fun t=>[13,10]++t
theorem ME {u:List UInt8} (us:List (List UInt8)) (h:tT u):gf (nn (u::us))=(u,nn us):=by
 cases us with
 | nil=>
  show gf (u++[])=(u,[]);rw [List.append_nil,FU h]
 | cons v us=>
  have e:nn (u::v::us)=u++[13,10]++nn (v::us):=by simp [nn]
  rw [e];exact KK h _
theorem MA {us:List (List UInt8)} (h:us≠[]):gf (fY us)=(Jq,nn us):=by
 cases us with
 | nil=>exact absurd rfl h
 | cons u us=>
  have e:fY (u::us)=Jq++[13,10]++nn (u::us):=by simp [fY,nn]
  rw [e];exact KK (MC (by decide)) _
def LV (U:List (List UInt8)):Prop:=U.length≤10∧∀u∈U,u≠[]∧u.length≤255∧∀x∈u,x≠13
theorem L4:∀{us:List (List UInt8)},(∀u∈us,u.length≤255)→(nn us).length≤257 * us.length
 | [],_=>Nat.zero_le _
 | [u],h=>by
  have:=h u (List.mem_cons_self ..);show (u++[]).length≤257 * 1;rw [List.append_nil];omega
 | u::v::us,h=>by
  have c:=h u (List.mem_cons_self ..);have a:=L4 (us:=v::us) (fun x b=>h x (List.mem_cons_of_mem _ b));have e:nn (u::v::us)=u++([13,10]++nn (v::us)):=by simp [nn]
  rw [e,List.length_append,List.length_append];simp only [List.length_cons,List.length_nil] at a ⊢;omega
def MK:List UInt8:=[109,101,64,104,101,114,101,46,111,114,103]
section
variable {w:World} {v:Value} {ms:List aX} {m:Nat} {sd:List UInt8}
theorem vv (h:nL w v ms) (F:ms.length≤1000000) (o:∀x∈ms,x.id≤m):
  Calls Tryz.prog 25 #[v,.int .i64 (m:Int),.string (bs sd)] w fun e B=>e= .returned (.tuple #[.slice none 0 0,.int .i64 (m:Int)])∧w=B:=by
 obtain ⟨a,n,s,rfl⟩:∃a n c,v= .slice a n c:=by obtain ⟨l,_,z,_⟩:=h;obtain ⟨a,c,e,_⟩:=z.shape;exact ⟨_,_,_,e⟩
 obtain ⟨u,j⟩:=h.cells;subst u;have p:=Lib.hid j;have q:=Lib.hid o;clear j o h;go_enter Tryz.func25,Tryz.ntmps25;go_wp2_with fail
 go_loopw [8,9,10] (fun t n i wr=>∃k:Nat,k≤ms.length∧t= .slice none 0 0∧n= .int .i64 m∧i= .int .i64 k∧w=wr) (fun _ _ i _=>ms.length - (intOf i).toNat)
 case atStart=>exact ⟨0,Nat.zero_le _,rfl,rfl,rfl,rfl⟩
 case round=>
  obtain ⟨k,E,rfl,rfl,rfl,rfl⟩:=hrel
  by_cases f:k < ms.length
  ·have g:(k:Int) < (ms.length:Int):=by omega
   obtain ⟨b,A,r,D,rfl,_,C,d⟩:=p.out k f;have y:(ms[k].id:Int)≤(m:Int):=by have:=q.out _ (List.getElem_mem f);omega
   clear d;go_wp2_with fail
   exact ⟨⟨k+1,by omega,rfl,rfl,by go_num,trivial⟩,by simp [intOf];omega⟩
  ·have g:¬(k:Int) < (ms.length:Int):=by omega
   go_wp2_with fail
   refine bodyPost_ret (v:= .tuple #[.slice none 0 0,.int .i64 (m:Int)]) (by simp [results,Tryz.results25,go_sem]) rfl ?_;exact ⟨rfl,rfl⟩
theorem L3 (hq:nL w v ms) (hl:ms.length≤1000000) {o:List aX} {x:aX} (B:ms=o++[x]) (hm:∀y∈o,y.id≤m) (hx:m < x.id) {U:List (List UInt8)} (hU:LV U) (W:U≠[]) (hf:x.frm=[]) (ht:x.tos=[MK]) (hb:x.body=fY U):
  Calls Tryz.prog 25 #[v,.int .i64 (m:Int),.string (bs MK)] w fun e w'=>∃v',e= .returned (.tuple #[v',.int .i64 (x.id:Int)])∧LJ w.heap.size w' v' U∧Below w.heap.size w w':=by
 obtain ⟨a,n,c5,rfl⟩:∃a n c,v= .slice a n c:=by obtain ⟨l,_,hr,_⟩:=hq;obtain ⟨a,c,e,_⟩:=hr.shape;exact ⟨_,_,_,e⟩
 obtain ⟨en,hc⟩:=hq.cells;subst en;have p:ms.length=o.length+1:=by rw [B,List.length_append];rfl
 have f:∀(h:o.length < ms.length),ms[o.length]=x:=fun h=>by
  subst B;rw [List.getElem_append_right (Nat.le_refl _)];simp
 have A:∀k (h:k < ms.length),k < o.length→ms[k].id≤m:=fun k h hk=>by
  subst B;rw [List.getElem_append_left hk];exact hm _ (List.getElem_mem hk)
 obtain ⟨M,eM⟩:∃M,o.length=M:=⟨_,rfl⟩;rw [eM] at p f A;have HC:=Lib.hid hc;have a7:=Lib.hid f;have a5:=Lib.hid A;have O:=Lib.hid p;have H:=Lib.hid hU;have a9:=Lib.hid W;have HX:=Lib.hid hx;rw [p];have hM:M≤1000000:=by omega
 clear hc hm hq f A B hU W hl hx eM p;go_enter Tryz.func25,Tryz.ntmps25;go_wp2_with fail
 go_loopw [8,9,10] (fun t n i wr=>∃k:Nat,i= .int .i64 k∧((k≤M∧t= .slice none 0 0∧n= .int .i64 m∧w=wr)∨(k=M+1∧n= .int .i64 x.id∧Hid (LJ w.heap.size wr t U)∧Hid (Below w.heap.size w wr)))) (fun _ _ i _=>M+1 - (intOf i).toNat)
 case atStart=>exact ⟨0,rfl,.inl ⟨Nat.zero_le _,rfl,rfl,rfl⟩⟩
 case round=>
  obtain ⟨k,rfl,⟨hk,rfl,rfl,rfl⟩ | ⟨rfl,rfl,d,G⟩⟩:=hrel
  ·have V:(k:Int) < (M:Int)+1:=by omega
   have K:k < ms.length:=by rw [O.out];omega
   obtain ⟨b,C,b8,ct,rfl,b3,c0,c1,c2,c3,c4,I⟩:=HC.out k K;clear c1
   by_cases T:k < M
   ·have c7:(ms[k].id:Int)≤(m:Int):=by have:=a5.out k K T;omega
    clear c2 c3 c4 I;go_wp2_with fail
    exact ⟨⟨k+1,by go_num,.inl ⟨by omega,rfl,rfl,trivial⟩⟩,by simp [intOf];omega⟩
   ·obtain rfl:k=M:=by omega
    have E:=a7.out (by rw [O.out];omega);obtain ⟨tb,Y,R,b5,Q⟩:=I 0 (by rw [E,ht];decide);have d0:w.cell? ⟨b,C+k * 5,none⟩=some (.int .i64 x.id):=by rw [c0,E]
    have Z:w.cell? ⟨b,C+k * 5+2,none⟩=some (.string (bs [])):=by rw [c2,E,hf]
    have d3:w.cell? ⟨b,C+k * 5+3,none⟩=some (.slice (some ⟨tb,Y,none⟩) 1 ct):=by
     rw [c3,R,E,ht];rfl
    have d4:w.cell? ⟨b,C+k * 5+4,none⟩=some (.string (bs (fY U))):=by rw [c4,E,hb]
    have d5:w.cell? ⟨tb,Y,none⟩=some (.string (bs MK)):=by
     have J:ms[k].tos[0]'(by rw [E,ht];decide)=MK:=by
      have S:ms[k].tos=[MK]:=by rw [E,ht]
      rw [List.getElem_of_eq S];rfl
     rw [←J];exact Q
    have b7:¬(x.id:Int)≤(m:Int):=by have:=HX.out;omega
    have b4:=L4 (us:=U) (fun u hu=>(H.out.2 u hu).2.1)
    have X:(fY U).length≤4294967296:=by
     have J:=H.out.1
     have S:∀us:List (List UInt8),(∀u∈us,u.length≤255)→(us.flatMap fun t=>[13,10]++t).length≤257 * us.length:=by
      intro us
      induction us with
      | nil=>intro _;exact Nat.zero_le _
      | cons u us ih=>
       intro h;have h3:=ih (fun y hy=>h y (List.mem_cons_of_mem _ hy));have h4:=h u (List.mem_cons_self ..);rw [List.flatMap_cons,List.length_append,List.length_append,List.length_cons];simp only [List.length_cons,List.length_nil];omega
     have h3:=S U (fun u hu=>(H.out.2 u hu).2.1);unfold fY;rw [List.length_append];have h4:Jq.length=14:=rfl;omega
    have j:=sx (fY U) X w;rw [MA a9.out] at j;have b0:=Lib.hid j;have a2:=Lib.hid Z;have a3:=Lib.hid d3;have a4:=Lib.hid d5;have N:=Lib.hid b3;have b1:=Lib.hid b5;clear c0 c2 c3 c4 I Q E R b4 X j T K Z d3 d5;go_wp2_with fail
    refine b0.out.mono ?_;rintro e w1 ⟨rfl,s⟩;have Z:=(s.cell N.out).trans a2.out;have d3:=(s.cell N.out).trans a3.out;have d5:=(s.cell b1.out).trans a4.out;have q1:(bs []).toList.isEmpty=true:=by rw [ByteArray.toList_eq,aI];rfl
    have q2:((bs MK).toList == [109,101,64,104,101,114,101,46,111,114,103])=true:=by rw [ByteArray.toList_eq,aI];rfl
    have q3:(bs MK).toList.isEmpty=false:=by rw [ByteArray.toList_eq,aI];rfl
    have q4:((bs Jq).toList == [78,111,116,32,100,101,108,105,118,101,114,101,100,58])=true:=by rw [ByteArray.toList_eq,aI];rfl
    have a0:=Lib.hid s;clear s d0 d4;go_wp2_with fail
    clear Z d3 d5 q1 q2 q3 q4;go_loopw [8,12] (fun t r wr=>∃(D us:List (List UInt8)),r= .string (bs (nn us))∧Hid (D++us=U)∧Hid (LJ w.heap.size wr t D)∧Hid (Below w.heap.size w wr)) (fun _ r _=>KW r)
    case atStart=>exact ⟨[],U,rfl,Lib.hid rfl,Lib.hid (LJ.zero _ _),a0⟩
    case round=>
     obtain ⟨D,us,rfl,q,d,G⟩:=hrel;obtain ⟨ao,co,eo⟩:=aE d.out.at;subst eo
     cases us with
     | nil=>
      have q1:(bs (nn [])).toList.isEmpty=true:=by rw [ByteArray.toList_eq,aI];rfl
      have b2:Hid (LJ w.heap.size wr (.slice ao D.length co) U):=Lib.hid (by have:=d.out;rw [←q.out,List.append_nil];exact this);go_wp2_with fail
      exact ⟨⟨k+1,by go_num,.inr ⟨rfl,rfl,b2,G⟩⟩,by simp [intOf]⟩
     | cons u us=>
      obtain ⟨L,b6,F⟩:=H.out.2 u (by rw [←q.out];simp)
      have c6:D.length≤10:=by
       have J:=H.out.1;rw [←q.out,List.length_append] at J;omega
      have j:=sx (nn (u::us)) (by
       have J:=L4 (us:=u::us) (fun y hy=>(H.out.2 y (by rw [←q.out];exact List.mem_append.2 (.inr hy))).2.1);have S:=H.out.1;rw [←q.out,List.length_append] at S
       omega) wr
      rw [ME us (MC F)] at j;have P:=Lib.hid j
      have q1:(bs (nn (u::us))).toList.isEmpty=false:=by
       rw [ByteArray.toList_eq,aI]
       cases u with
       | nil=>exact absurd rfl L
       | cons y u=>rfl
      have a8:Hid ((nn us).length < (nn (u::us)).length):=Lib.hid (by
       have J:=List.length_pos_iff.2 L
       cases us with
       | nil=>show 0 < (u++[]).length;rw [List.append_nil];exact J
       | cons v us=>
        have e:nn (u::v::us)=u++[13,10]++nn (v::us):=by simp [nn]
        rw [e,List.length_append,List.length_append]
        omega)
      clear j L b6 F;go_wp2_with fail
      refine P.out.mono ?_;rintro e w2 ⟨rfl,z⟩;obtain ⟨g,cp,W1,k1,k2,k3,k4⟩:=(d.out.below z).one u (by omega) (Nat.le_trans G.out.size z.size);have HR:=Lib.hid k1;have H2:=Lib.hid k2;have a1:Hid (Below w.heap.size w W1):=Lib.hid ((G.out.trans (z.mono G.out.size)).trans (k3.toBelow (fun g e=>(d.out.ge e).1) (Nat.le_trans G.out.size z.size)));have a6:Hid (D++[u]++us=U):=Lib.hid (by rw [←q.out];simp);clear k1 k2 k3 k4 z
      go_wp2_with (first
       | (at_builtin;refine bB rfl _ _ 25 rfl _ _ (.slice (some ⟨g,0,none⟩) (D.length+1) cp) W1 rfl rfl HR.out ?_)
       | fail)
      exact ⟨⟨D++[u],us,rfl,a6,H2,a1⟩,by show (bs (nn us)).size < (bs (nn (u::us))).size;rw [aG,aG];exact a8.out⟩
  ·have V:¬((M+1:Nat):Int) < (M:Int)+1:=by omega
   obtain ⟨ao,co,eo⟩:=aE d.out.at;subst eo;go_wp2_with fail
   refine bodyPost_ret (v:= .tuple #[.slice ao U.length co,.int .i64 (x.id:Int)]) (by simp [results,Tryz.results25,go_sem]) rfl ?_;exact ⟨_,rfl,d.out,G.out⟩
end
def Nk:List UInt8:=[112,64,99,46,111,114,103]
def Nl:List UInt8:=[113,64,99,46,111,114,103]
def Nn:List UInt8:=[114,64,99,46,111,114,103]
def LI:List (List UInt8):=[Nk,Nl,Nn]
def Nu (sd:List UInt8):aX:=⟨2,0,sd,LI,[120]⟩
def KX (A B:List (List UInt8)):List (List UInt8):=LI.filter fun x=> !((A++B).contains x)
theorem L5:LI.Nodup:=by decide
theorem Mt {α:Type} [BEq α] [LawfulBEq α]:∀(T l:List α),l.Nodup→(∀x∈l,x∈T)→l.length≤T.length
 | [],l,_,h=>by
  cases l with
  | nil=>exact Nat.le_refl _
  | cons a l=>exact absurd (h a (List.mem_cons_self ..)) (by simp)
 | t::T,l,hn,h=>by
  have b:=Mt T (l.erase t) (hn.erase t) (fun x j=>by
   obtain ⟨e,f⟩:=hn.mem_erase_iff.1 j
   exact (List.mem_cons.1 (h x f)).resolve_left e)
  by_cases d:t∈l
  ·rw [List.length_erase_of_mem d] at b;rw [List.length_cons];omega
  ·rw [List.erase_of_not_mem d] at b;rw [List.length_cons];omega
structure Mc (sd:List UInt8) (S:bp):Prop where
 len:2≤S.items.length
 m0:(S.mailOf 0).frm=[]
 m1:S.mailOf 1=Nu sd
 ret:∀j,2≤j→j < S.items.length→(S.mailOf j).frm=[]∧(S.mailOf j).tos=[sd]∧sd≠[]
section
variable {sd:List UInt8} {S S':bp}
theorem Mc.frm (h:Mc sd S) {j:Nat} (b:j < S.items.length) (a:j≠1):(S.mailOf j).frm=[]:=by
 rcases j with _ | _ | j
 ·exact h.m0
 ·exact absurd rfl a
 ·exact (h.ret (j+2) (by omega) b).1
theorem Mc.to (h:Mc sd S) (l:S.items.length≤S'.items.length) (b:∀j,j < S.items.length→S'.mailOf j=S.mailOf j) (k:∀j,S.items.length≤j→j < S'.items.length→(S'.mailOf j).frm=[]∧(S'.mailOf j).tos=[sd]∧sd≠[]):Mc sd S':=by
 have d:=h.len;refine ⟨by omega,by rw [b 0 (by omega)];exact h.m0,by rw [b 1 (by omega)];exact h.m1,fun j e f=>?_⟩
 by_cases a:j < S.items.length
 ·rw [b j a];exact h.ret j e a
 ·exact k j (by omega) f
end
def LY (g:GS) (j:Nat):Bool:=decide (j∈g.S.live∧(g.d j).1≤(g.S.time:Int))
def Mx (g:GS):Nat:=(List.range g.S.items.length).countP (LY g)
def M7 (g:GS):Nat:=6 * (20 - g.S.time)+Mx g+(g.S.stayOf 1).length
theorem LN {P Q:Nat→Bool} {a:Nat}:∀{l:List Nat},l.Nodup→a∈l→Q a=true→P a=false→(∀x∈l,x≠a→P x=true→Q x=true)→l.countP P+1≤l.countP Q
 | [],_,h,_,_,_=>by cases h
 | x::l,hn,h,hq,hp,hi=>by
  rw [List.countP_cons,List.countP_cons];have b:=List.nodup_cons.1 hn
  rcases List.mem_cons.1 h with e | e
  ·subst e;rw [hq,hp];have k:l.countP P≤l.countP Q:=List.countP_mono_left (fun y d=>hi y (List.mem_cons_of_mem _ d) (fun e=>b.1 (by rw [←e];exact d)));simp only [if_true,Bool.false_eq_true,if_false];omega
  ·have k:=LN b.2 e hq hp (fun y d=>hi y (List.mem_cons_of_mem _ d));have n:x≠a:=fun j=>b.1 (by rw [j];exact e);have o:=hi x (List.mem_cons_self ..) n
   cases f:P x with
   | false=>simp only [Bool.false_eq_true,if_false];omega
   | true=>rw [o f];simp only [if_true];omega
def MX (sd:List UInt8) (S:bp) (m:Nat) (U:List (List UInt8)):Prop:=
 (S.items.length=m∧U=[])∨(S.items.length=m+1∧m∈S.live∧(S.mailOf m).body=fY U∧U≠[]∧LV U∧gy (S.stayOf m)=[sd])
structure LM (sd:List UInt8) (g:GS) (A B C:List (List UInt8)) (m i:Nat):Prop where
 base:Mc sd g.S
 tk:g.tk=none
 m2:2≤m
 nd:(A++B).Nodup
 sub:∀x∈A++B,x∈LI
 told:∃U,MX sd g.S m U∧(sd=[]→C=[])∧(sd≠[]→C++U=B++(if g.S.stayOf 1=[] then KX A B else []))
 stay:g.S.stayOf 1≠[]→gy (g.S.stayOf 1)=KX A B∧g.S.time < 20∧g.S.items.length+(g.S.stayOf 1).length≤5∧i+M7 g≤125
 idx:i≤126
theorem MF (A B:List (List UInt8)):LV (KX A B):=by
 refine ⟨Nat.le_trans (List.length_filter_le _ _) (by decide),fun u a=>?_⟩;have h:u∈LI:=(List.mem_filter.1 a).1;have h:u=Nk∨u=Nl∨u=Nn:=by simpa [LI] using h
 rcases h with rfl | rfl | rfl <;> decide
theorem MV {U:List (List UInt8)} (a:U.length≤10) (h:∀u∈U,u∈LI):LV U:=by
 refine ⟨a,fun u b=>?_⟩;have h:u=Nk∨u=Nl∨u=Nn:=by simpa [LI] using h u b
 rcases h with rfl | rfl | rfl <;> decide
section
variable {sd:List UInt8} {g:GS} {A B C:List (List UInt8)} {m i:Nat} {c:bX}
theorem LM.small (h:LM sd g A B C m i):A.length+B.length≤3∧C.length≤10:=by
 have a:=Mt LI (A++B) h.nd h.sub;rw [List.length_append] at a;have a:A.length+B.length≤3:=a;refine ⟨a,?_⟩;obtain ⟨U,_,d,e⟩:=h.told
 by_cases b:sd=[]
 ·rw [d b];exact Nat.zero_le _
 ·have f:=congrArg List.length (e b);rw [List.length_append,List.length_append] at f
  have j:(if g.S.stayOf 1=[] then KX A B else []).length≤3:=by
   split
   ·exact Nat.le_trans (List.length_filter_le _ _) (by decide)
   ·exact Nat.zero_le _
  omega
theorem LM.seen (h:LM sd g A B C m i):∃U,LM sd g A B (C++U) g.S.items.length i∧((U=[]∧g.S.items.length=m∧∀x∈g.S.live.map g.S.toldOf,x.id≤m)∨(g.S.items.length=m+1∧U≠[]∧sd≠[]∧LV U∧∃d,g.S.live.map g.S.toldOf=d++[g.S.toldOf m]∧(∀y∈d,y.id≤m)∧(g.S.toldOf m).frm=[]∧(g.S.toldOf m).tos=[sd]∧(g.S.toldOf m).body=fY U)):=by
 obtain ⟨U,p,w,z⟩:=h.told;have b:=h.base.len;refine ⟨U,⟨h.base,h.tk,b,h.nd,h.sub,⟨[],.inl ⟨rfl,rfl⟩,fun k=>?_,fun k=>by rw [List.append_nil];exact z k⟩,h.stay,h.idx⟩,?_⟩
 ·rcases p with ⟨_,e⟩ | ⟨f,_⟩
  ·rw [e,List.append_nil];exact w k
  ·have:=(h.base.ret m h.m2 (by omega)).2.2;exact absurd k this
 ·rcases p with ⟨f,l⟩ | ⟨f,l,q,r,u,v⟩
  ·refine .inl ⟨l,f,fun x F=>?_⟩;obtain ⟨j,n,rfl⟩:=List.mem_map.1 F;have:=bq n;show j+1≤m;omega
  ·obtain ⟨H,K,I⟩:=h.base.ret m h.m2 (by omega);refine .inr ⟨f,r,I,u,?_⟩;obtain ⟨s,t,a⟩:=List.append_of_mem l;have o:=oz g.S;rw [a,List.pairwise_append,List.pairwise_cons] at o
   have E:t=[]:=by
    cases t with
    | nil=>rfl
    | cons y t=>
     have J:=o.2.1.1 y (List.mem_cons_self ..);have D:y∈g.S.live:=by rw [a];simp
     have:=bq D;omega
   subst E;refine ⟨s.map g.S.toldOf,by rw [a,List.map_append];rfl,fun y G=>?_,H,?_,q⟩
   ·obtain ⟨j,n,rfl⟩:=List.mem_map.1 G;have:=o.2.2 j n m (List.mem_cons_self ..);show j+1≤m;omega
   ·exact v
theorem MJ (f:Int):1≤kH [1,5,2] f:=by
 unfold kH
 by_cases h:(([1,5,2]:List Int).length:Int) - 1 < f
 ·rw [if_pos h];decide
 ·rw [if_neg h];have h:¬(3:Int) - 1 < f:=h;have b:f.toNat≤2:=by omega
  obtain ⟨k,a⟩:∃k,f.toNat=k:=⟨_,rfl⟩;rw [a] at b ⊢;have:k=0∨k=1∨k=2:=by omega
  rcases this with rfl | rfl | rfl <;> decide
theorem MB (S:bp) (j:Nat) (b:Bool):(jM S j).took b=[]:=by
 unfold aQ.took jM;simp
theorem LM.hang (t:c.waits=[1,5,2]) (h:LM sd g A B C m i) (d:g.S.stayOf 1≠[]) {j:Nat} (f:j∈g.S.live) (r:(g.d j).1≤(g.S.time:Int)):LM sd (Bt c {g with tk:=some (jM g.S j)} (jM g.S j)) A B C m (i+1):=by
 have q:cV g.S g.recs (jM g.S j)=(g.S,g.recs):=by
  unfold cV kR jr i7;rw [MB,MB,if_pos rfl,if_pos rfl]
 have b:(Bt c {g with tk:=some (jM g.S j)} (jM g.S j)).S=g.S:=by
  show (cV g.S g.recs (jM g.S j)).1=_;rw [q]
 have p:∀k,k < g.S.items.length→(Bt c {g with tk:=some (jM g.S j)} (jM g.S j)).d k=if k=j then ((g.S.time:Int)+kH c.waits (g.d j).2,(g.d j).2+1) else g.d k:=fun k s=>by
  show Aw g.S (cV g.S g.recs (jM g.S j)).1 g.d (jM g.S j) c.waits k=_;unfold Aw;show (if k=j then _ else _)=_
  split
  ·rfl
  ·unfold oS;rw [if_pos s]
 obtain ⟨v,w,y,z⟩:=h.stay d
 have E:M7 (Bt c {g with tk:=some (jM g.S j)} (jM g.S j))+1≤M7 g:=by
  unfold M7 Mx;rw [b]
  have:=LN (P:=LY (Bt c {g with tk:=some (jM g.S j)} (jM g.S j))) (Q:=LY g) (a:=j) (l:=List.range g.S.items.length) List.nodup_range (List.mem_range.2 (bq f)) (decide_eq_true ⟨f,r⟩) (by
   unfold LY;rw [b,p j (bq f),if_pos rfl,t];have:=MJ (g.d j).2;refine decide_eq_false fun e=>?_;have D:(g.S.time:Int)+kH [1,5,2] (g.d j).2≤(g.S.time:Int):=e.2;omega) (fun x u n o=>by
   unfold LY at o ⊢;rw [b,p x (List.mem_range.1 u),if_neg n] at o
   exact o)
  omega
 refine ⟨by rw [b];exact h.base,rfl,h.m2,h.nd,h.sub,by rw [b];exact h.told,fun _=>?_,by have:=z;omega⟩
 rw [b];exact ⟨v,w,y,by omega⟩
end
def Nj:bX:=dD 3 500 19
theorem Np:lS 3 500 19=Nj:=by kernel_rfl
def Nr:List UInt8:=[72,69,76,79,32,120,13,10,77,65,73,76,32,70,82,79,77,58,60]
def M5 (x:List UInt8):List UInt8:=[82,67,80,84,32,84,79,58,60]++x++[62,13,10]
def Nt:List UInt8:=[62,13,10]++M5 Nk++M5 Nl++M5 Nn++[68,65,84,65,13,10,46,120,13,10,46,13,10]
def Nb (sd:List UInt8):List UInt8:=Nr++sd++Nt
def M6 (sd:List UInt8):bG×bp×List UInt8×List UInt8:=cL Nj (dI Nj 256,Cj,I6,[]) (Nb sd)
def MQ:List UInt8:=[50,53,48,32,111,107,13,10]
def Mg:List UInt8:=[50,53,48,32,109,120,46,111,114,103,13,10]++MQ++MQ++MQ++MQ++[51,53,52,32,103,111,13,10]++[50,53,48,32,107,101,112,116,32,50,13,10]
theorem Ny:(M6 MK).2.1=Cj.plus (Nu MK)∧(M6 MK).2.2.2=Mg∧(M6 MK).1.over=false:=⟨by kernel_rfl,by kernel_rfl,by kernel_rfl⟩
theorem Nz:(M6 []).2.1=Cj.plus (Nu [])∧(M6 []).2.2.2=Mg∧(M6 []).1.over=false:=⟨by kernel_rfl,by kernel_rfl,by kernel_rfl⟩
theorem Nx {a:List UInt8} (h:a=MK∨a=[]):(M6 a).2.1=Cj.plus (Nu a)∧(M6 a).2.2.2=Mg∧(M6 a).1.over=false:=by
 rcases h with rfl | rfl
 ·exact Ny
 ·exact Nz
def Nq (sd:List UInt8) (c:bX) (l:List (Option bG)):GS:={I5 c with S:=Cj.plus (Nu sd),recs:=(M6 sd).2.2.1,l:=l,d:=oS Cj (Cj.plus (Nu sd)) (I5 c).d}
theorem Na (a:List UInt8) (c:bX) (l:List (Option bG)):LM a (Nq a c l) [] [] [] 2 0:=by
 have b:(Nq a c l).S.stayOf 1=[(0,Nk),(1,Nl),(2,Nn)]:=rfl;refine ⟨⟨Nat.le_refl 2,rfl,rfl,fun j e d=>?_⟩,rfl,Nat.le_refl _,List.nodup_nil,(fun x f=>by cases f),⟨[],.inl ⟨rfl,rfl⟩,fun _=>rfl,fun _=>?_⟩,fun _=>⟨rfl,?_,?_,?_⟩,by omega⟩
 ·have d:j < 2:=d;omega
 ·rw [b,if_neg (by decide)]
 ·show 0 < 20;decide
 ·show 2+3≤5;decide
 ·unfold M7 Mx
  have e:(List.range (Nq a c l).S.items.length).countP (LY (Nq a c l))≤2:=by
   refine Nat.le_trans List.countP_le_length ?_;rw [List.length_range];exact Nat.le_refl 2
  have d:(Nq a c l).S.time=0:=rfl;rw [d,b];show 0+(6 * (20 - 0)+_+3)≤125;omega
def tt (A B:List (List UInt8)) (k:Nat):List (List UInt8):=B++(LI.take k).filter fun x=> !((A++B).contains x)
theorem MU (A B:List (List UInt8)):tt A B 0=B:=by unfold tt;simp
theorem MY (A B:List (List UInt8)):tt A B 3=B++KX A B:=rfl
theorem MZ (A B:List (List UInt8)) (k:Nat):(tt A B k).length≤B.length+3:=by
 unfold tt;rw [List.length_append];have a:=List.length_filter_le (fun x=> !((A++B).contains x)) (LI.take k);have b:(LI.take k).length≤3:=by rw [List.length_take];exact Nat.min_le_right _ _
 omega
theorem M3 {A B:List (List UInt8)} (g:(A++B).Nodup) {k:Nat} (b:k < LI.length):(A.count LI[k]+(tt A B k).count LI[k]=1∧tt A B (k+1)=tt A B k)∨(A.count LI[k]+(tt A B k).count LI[k]=0∧tt A B (k+1)=tt A B k++[LI[k]]):=by
 have c:A.count LI[k]+B.count LI[k]=if LI[k]∈A++B then 1 else 0:=by rw [←List.count_append];exact g.count
 have d:((LI.take k).filter fun x=> !((A++B).contains x)).count LI[k]=0:=by
  rw [List.count_eq_zero];intro e;have e:=(List.mem_filter.1 e).1
  have a:(LI.take k++[LI[k]]).Nodup:=by
   rw [←List.take_succ_eq_append_getElem b];exact L5.sublist (List.take_sublist _ _)
  rw [List.nodup_append] at a;exact a.2.2 _ e _ (List.mem_singleton.2 rfl) rfl
 have a:(tt A B k).count LI[k]=B.count LI[k]:=by
  unfold tt;rw [List.count_append,d,Nat.add_zero]
 have f:tt A B (k+1)=tt A B k++(if (A++B).contains LI[k] then [] else [LI[k]]):=by
  unfold tt;rw [List.take_succ_eq_append_getElem b,List.filter_append,List.append_assoc]
  congr 2
  cases h:(A++B).contains LI[k]
  ·rw [List.filter_cons_of_pos (by rw [h];rfl)];rfl
  ·rw [List.filter_cons_of_neg (by rw [h];decide)];rfl
 rw [a,c,f]
 by_cases h:LI[k]∈A++B
 ·rw [if_pos h,if_pos (List.contains_iff_mem.2 h),List.append_nil];exact .inl ⟨rfl,rfl⟩
 ·rw [if_neg h,if_neg (fun e=>h (List.contains_iff_mem.1 e))];exact .inr ⟨rfl,rfl⟩
theorem LM.done {f:List UInt8} {g:GS} {A B C:List (List UInt8)} {m i:Nat} (h:LM f g A B C m i) (d:g.S.items.length=m) (p:g.S.stayOf 1=[]):(f=[]→C=[])∧(f≠[]→C=B++KX A B)∧(B++KX A B).Nodup:=by
 obtain ⟨U,r,l,n⟩:=h.told
 have k:U=[]:=by
  rcases r with ⟨_,e⟩ | ⟨e,_⟩
  ·exact e
  ·omega
 subst k;refine ⟨l,fun q=>?_,?_⟩
 ·have:=n q;rw [if_pos p,List.append_nil] at this;exact this
 ·rw [List.nodup_append];refine ⟨(List.nodup_append.1 h.nd).2.1,L5.sublist List.filter_sublist,fun a j b o c=>?_⟩;rw [c] at j;have:=(List.mem_filter.1 o).2;rw [Bool.not_eq_true',←Bool.not_eq_true,List.contains_iff_mem] at this;exact this (List.mem_append.2 (.inr j))
end Go.Proofs.YtofpegbpgkkgkaaGreatDoor
