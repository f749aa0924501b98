import Derived.Test.YtofpegbpgkkgkaaGreatDoorS15
import Derived.Test.YtofpegbpgkkgkaaGreatDoorS14
import Derived.Test.YtofpegbpgkkgkaaGreatDoorS22
import Derived.Lib.Join
namespace Go.Proofs.YtofpegbpgkkgkaaGreatDoor
set_option maxHeartbeats 8000000
set_option maxRecDepth 1000000
structure aP where
 i:Nat
 said:Nat
 una:List (Nat×List UInt8)
 wil:List (Nat×List UInt8)
 came:List (Nat×Bool)
def xh:List UInt8:=[13,10]
def aP.leave (t:aP) (l:List (Nat×List UInt8)) (b:Bool):aP:={t with came:=t.came++l.map fun x=>(x.1,b)}
def aP.say (t:aP) (s:Nat) (l:List UInt8):aP×List UInt8:=({t with said:=s},l++xh)
def aP.quit (t:aP):aP×List UInt8:=t.say 6 [81,85,73,84]
def aP.ask (t:aP):aP×List UInt8:=
 match t.una with
 | r::_=>t.say 3 ([82,67,80,84,32,84,79,58,60]++r.2++[62])
 | []=>if t.wil=[] then t.quit else t.say 4 [68,65,84,65]
def aP.hear (host frm sent:List UInt8) (t:aP) (a:Nat):aP×List UInt8:=
 if t.said=0 then (if a=2 then t.say 1 ([69,72,76,79,32]++host) else t.quit)
 else if t.said=1 then (if a=2 then t.say 2 ([77,65,73,76,32,70,82,79,77,58,60]++frm++[62]) else t.quit)
 else if t.said=2 then (if a=2 then t.ask else if a=5 then (t.leave t.una false).quit else t.quit)
 else if t.said=3 then
  (if a=2 then ({t with una:=t.una.drop 1,wil:=t.wil++t.una.take 1}:aP).ask
  else if a=5 then (({t with una:=t.una.drop 1}:aP).leave (t.una.take 1) false).ask
  else ({t with una:=t.una.drop 1}:aP).ask)
 else if t.said=4 then (if a=3 then t.say 5 (sent++xh++[46]) else if a=5 then (t.leave t.wil false).quit else t.quit)
 else (if a=2 then (t.leave t.wil true).quit else if a=5 then (t.leave t.wil false).quit else t.quit)
def aP.act (t:aP):List Nat:=(if t.said=6 then [] else (t.una++t.wil).map (·.1))++t.came.map (·.1)
structure dL (L:List (Nat×List UInt8)) (t:aP):Prop where
 said:t.said≤6
 una:t.said=3→t.una≠[]
 nd:t.act.Nodup
 sub:∀x∈t.act,x∈L.map (·.1)
 room:t.act.length≤L.length
 mem:∀x∈t.una++t.wil,x∈L
theorem dL.le {L:List (Nat×List UInt8)} {t a:aP} (h:dL L t) (c:a.said≤6) (d:a.said=3→a.una≠[]) (f:∃m:List Nat,m.Perm a.act∧m.Sublist t.act) (e:∀x∈a.una++a.wil,x∈t.una++t.wil):dL L a:=by
 obtain ⟨m,p,s⟩:=f;exact ⟨c,d,p.nodup_iff.1 (h.nd.sublist s),fun x b=>h.sub x (s.subset (p.mem_iff.2 b)),by rw [←p.length_eq];exact Nat.le_trans s.length_le h.room,fun x b=>h.mem x (e x b)⟩
theorem IP {t:aP} (h:t.said=6):t.act=t.came.map (·.1):=by unfold aP.act;rw [if_pos h];rfl
theorem kQ {t:aP} (h:t.said≠6):t.act=(t.una++t.wil).map (·.1)++t.came.map (·.1):=by unfold aP.act;rw [if_neg h]
theorem mV {L:List (Nat×List UInt8)} {t:aP} (h:dL L t):dL L t.quit.1:=by
 refine h.le (by show 6≤6;omega) (by show 6=3→_;omega) ⟨_,List.Perm.refl _,?_⟩ (fun x a=>a);rw [IP (by rfl)];unfold aP.act;exact List.sublist_append_right _ _
theorem kZ {L l:List (Nat×List UInt8)} {t:aP} (h:dL L t) (a:t.said≠6) (c:l=t.una∨l=t.wil) (b:Bool):dL L (t.leave l b).quit.1:=by
 refine h.le (by show 6≤6;omega) (by show 6=3→_;omega) ⟨l.map (·.1)++t.came.map (·.1),?_,?_⟩ (fun x d=>d)
 ·rw [IP (by rfl)];show List.Perm _ ((t.came++l.map fun x=>(x.1,b)).map (·.1));rw [List.map_append,List.map_map];exact List.perm_append_comm
 ·rw [kQ a];refine List.Sublist.append_right ?_ _;rw [List.map_append]
  rcases c with rfl | rfl
  ·exact List.sublist_append_left _ _
  ·exact List.sublist_append_right _ _
theorem wK {L:List (Nat×List UInt8)} {t:aP} (h:dL L t) (b:t.said≠6):dL L t.ask.1:=by
 unfold aP.ask
 split
 ·rename_i r u e
  refine h.le (by show 3≤6;omega) (fun _=>by show t.una≠[];rw [e];simp) ⟨_,List.Perm.refl _,?_⟩ (fun x a=>a);rw [kQ b,kQ (by show 3≠6;omega)];exact List.Sublist.refl _
 ·split
  ·exact mV h
  ·refine h.le (by show 4≤6;omega) (by show 4=3→_;omega) ⟨_,List.Perm.refl _,?_⟩ (fun x a=>a);rw [kQ b,kQ (by show 4≠6;omega)];exact List.Sublist.refl _
theorem Cf {L:List (Nat×List UInt8)} {t:aP} (h:dL L t) (b:t.said≠6) (s:Nat) (d:s < 6) (a:s≠3) (l:List UInt8):dL L (t.say s l).1:=by
 refine h.le (by show s≤6;omega) (fun e=>absurd e a) ⟨_,List.Perm.refl _,?_⟩ (fun x c=>c);rw [kQ b,kQ (by show s≠6;omega)];exact List.Sublist.refl _
theorem EX {L:List (Nat×List UInt8)} {t:aP} (h:dL L t) (e:t.said=3):∃r u,t.una=r::u∧dL L {t with said:=4,una:=t.una.drop 1,wil:=t.wil++t.una.take 1}∧dL L (({t with said:=4,una:=t.una.drop 1}:aP).leave (t.una.take 1) false)∧dL L {t with said:=4,una:=t.una.drop 1}:=by
 have f:=h.una e;obtain ⟨i,d,una,a,b⟩:=t;simp only at e f;subst e
 cases una with
 | nil=>exact absurd rfl f
 | cons r u=>
  refine ⟨r,u,rfl,?_,?_,?_⟩
  ·refine h.le (by show 4≤6;omega) (by show 4=3→_;omega) ⟨_,?_,List.Sublist.refl _⟩ (fun x c=>?_)
   ·show List.Perm (((r::u)++a).map (·.1)++b.map (·.1)) ((u++(a++[r])).map (·.1)++b.map (·.1));refine List.Perm.append_right _ (List.Perm.map _ ?_);rw [←List.append_assoc];exact List.perm_append_singleton r (u++a) |>.symm
   ·have c:x∈u++(a++[r]):=c;show x∈(r::u)++a;simp only [List.mem_append,List.mem_cons,List.not_mem_nil,or_false] at c ⊢
    rcases c with c | c | c
    ·exact .inl (.inr c)
    ·exact .inr c
    ·exact .inl (.inl c)
  ·refine h.le (by show 4≤6;omega) (by show 4=3→_;omega) ⟨_,?_,List.Sublist.refl _⟩ (fun x c=>?_)
   ·show List.Perm (((r::u)++a).map (·.1)++b.map (·.1)) ((u++a).map (·.1)++(b++[(r.1,false)]).map (·.1));rw [List.map_append (l₁:=b),←List.append_assoc];exact List.perm_append_singleton r.1 _ |>.symm
   ·have c:x∈u++a:=c;show x∈(r::u)++a;exact List.mem_cons_of_mem _ c
  ·refine h.le (by show 4≤6;omega) (by show 4=3→_;omega) ⟨_,List.Perm.refl _,?_⟩ (fun x c=>?_)
   ·show List.Sublist ((u++a).map (·.1)++b.map (·.1)) (((r::u)++a).map (·.1)++b.map (·.1));exact List.sublist_cons_self _ _
   ·have c:x∈u++a:=c;show x∈(r::u)++a;exact List.mem_cons_of_mem _ c
theorem G4 {L:List (Nat×List UInt8)} {t:aP} (h:dL L t) (b:t.said≠6) (c e d:List UInt8) (a:Nat):dL L (t.hear c e d a).1:=by
 unfold aP.hear
 split
 ·split
  ·exact Cf h b 1 (by omega) (by omega) _
  ·exact mV h
 ·split
  ·split
   ·exact Cf h b 2 (by omega) (by omega) _
   ·exact mV h
  ·split
   ·split
    ·exact wK h b
    ·split
     ·exact kZ h b (.inl rfl) _
     ·exact mV h
   ·split
    ·rename_i f
     obtain ⟨r,u,_,g,i,j⟩:=EX h f
     split
     ·have:=wK g (by show 4≠6;omega);exact this
     ·split
      ·have:=wK i (by show 4≠6;omega);exact this
      ·have:=wK j (by show 4≠6;omega);exact this
    ·split
     ·split
      ·exact Cf h b 5 (by omega) (by omega) _
      ·split
       ·exact kZ h b (.inr rfl) _
       ·exact mV h
     ·split
      ·exact kZ h b (.inr rfl) _
      ·split
       ·exact kZ h b (.inr rfl) _
       ·exact mV h
def aP.took (t:aP) (b:Bool):List Nat:=((t.came.filter fun x=>x.2 == b).map (·.1)).mergeSort (fun x y=>decide (x≤y))
theorem na (t:aP) (b:Bool):(t.took b).Perm ((t.came.filter fun x=>x.2 == b).map (·.1)):=List.mergeSort_perm _ _
theorem wu {t:aP} {b:Bool} {x:Nat} (h:x∈t.took b):x∈t.came.map (·.1):=by
 rw [(na t b).mem_iff,List.mem_map] at h;obtain ⟨y,a,rfl⟩:=h;exact List.mem_map.2 ⟨y,(List.mem_filter.1 a).1,rfl⟩
theorem sn {L:List (Nat×List UInt8)} {t:aP} (h:dL L t):(t.came.map (·.1)).Nodup:=h.nd.sublist (by unfold aP.act;exact List.sublist_append_right _ _)
theorem tU {L:List (Nat×List UInt8)} {t:aP} (h:dL L t) {x:Nat} (k:x∈t.took true) (m:x∈t.took false):False:=by
 rw [(na t _).mem_iff,List.mem_map] at k m;obtain ⟨y,e,i⟩:=k;obtain ⟨z,f,j⟩:=m;rw [List.mem_filter,beq_iff_eq] at e f;have o:t.came.Pairwise (fun a b=>a.1≠b.1):=List.pairwise_map.1 (sn h)
 have g:∀(l:List (Nat×Bool)),l.Pairwise (fun a b=>a.1≠b.1)→y∈l→z∈l→y=z:=by
  intro l n
  induction n with
  | nil=>intro a;cases a
  | cons ha _ ih=>
   intro a b
   rcases List.mem_cons.1 a with d | d
   ·rcases List.mem_cons.1 b with c | c
    ·rw [d,c]
    ·exact absurd (i.trans j.symm) (by rw [d];exact ha z c)
   ·rcases List.mem_cons.1 b with c | c
    ·exact absurd (j.trans i.symm) (by rw [c];exact ha y d)
    ·exact ih d c
 have:=g _ o e.1 f.1;rw [this] at e;rw [f.2] at e;exact absurd e.2 (by decide)
theorem mJ {L:List (Nat×List UInt8)} {t:aP} (h:dL L t) (b:Bool):(t.took b).Pairwise (·< ·):=by
 have d:(t.took b).Pairwise (fun x y=>decide (x≤y)=true):=List.pairwise_mergeSort (fun a b c d e=>by simp only [decide_eq_true_eq] at *;omega) (fun a b=>by simp only [Bool.or_eq_true,decide_eq_true_eq];omega) _;have e:(t.took b).Nodup:=(na t b).nodup_iff.2 ((sn h).sublist ((List.filter_sublist).map _))
 exact (d.and e).imp fun {a b} hab=>by
  have:=hab.1;simp only [decide_eq_true_eq] at this;have:=hab.2;omega
theorem tV {L:List (Nat×List UInt8)} {t:aP} (h:dL L t) (b:Bool):(t.took b).length≤L.length:=by
 rw [(na t b).length_eq,List.length_map];have c:=List.length_filter_le (fun x:Nat×Bool=>x.2 == b) t.came;have a:=h.room;unfold aP.act at a;rw [List.length_append,List.length_map] at a;omega
theorem mW {l:List Nat} (h:l.Pairwise (·< ·)):bC l=true:=by
 unfold bC kz;rw [List.all_eq_true];intro k a;have a:=List.mem_range.1 a
 by_cases e:k=0
 ·rw [decide_eq_true e];rfl
 ·rw [Bool.or_eq_true]
  right
  rw [decide_eq_true_eq,List.getD_eq_getElem?_getD,List.getD_eq_getElem?_getD,List.getElem?_eq_getElem a,List.getElem?_eq_getElem (show k - 1 < l.length by omega)];exact (List.pairwise_iff_getElem.1 h) (k - 1) k (by omega) a (by omega)
theorem BF {S:aa} {i:Nat} {a:List Nat} (b:i∈S.live) (c:1≤a.length) (h:∀x∈a,x∈(S.stayOf i).map (·.1)):bu S (i+1) a=true:=by
 rw [dv c,Bool.and_eq_true,decide_eq_true_eq,Nat.add_sub_cancel,List.all_eq_true];refine ⟨⟨by omega,b⟩,fun x f=>?_⟩
 obtain ⟨r,d,e⟩:=List.mem_map.1 (h x f);exact List.any_eq_true.2 ⟨r,d,by simpa using e⟩
structure Cx (i:Nat) (S S':aa):Prop where
 len:S.items.length≤S'.items.length
 time:S'.time=S.time
 mail:∀j,j < S.items.length→S'.mailOf j=S.mailOf j
 stay:∀j,j < S.items.length→j≠i→S'.stayOf j=S.stayOf j
theorem Cx.refl (i:Nat) (S:aa):Cx i S S:=⟨Nat.le_refl _,rfl,fun _ _=>rfl,fun _ _ _=>rfl⟩
theorem Cx.trans {i:Nat} {S d a:aa} (h:Cx i S d) (c:Cx i d a):Cx i S a:=
 ⟨Nat.le_trans h.len c.len,c.time.trans h.time,fun j b=>(c.mail j (Nat.lt_of_lt_of_le b h.len)).trans (h.mail j b),fun j b e=>(c.stay j (Nat.lt_of_lt_of_le b h.len) e).trans (h.stay j b e)⟩
theorem tr (S:aa) (i:Nat) (a:List Nat):Cx i S (S.outs i a):=⟨by rw [bF];exact Nat.le_refl _,rfl,fun j _=>fH S i a j,fun j _ b=>gS b⟩
theorem Gc (i:Nat) (S:aa) (m:aR) (b:m.time=S.time):Cx i S (S.plus m):=⟨by rw [dz];omega,b,fun j a=>jw a,fun j a _=>jx a⟩
def vh (m:aR):Prop:=m.frm=[]∧m.tos.length=1∧∃N,N≠[]∧m.body=fu N
theorem Bb {S:aa} {i:Nat} {a:List Nat} (b:S.Ok) (A:S.items.length < 4294967295) (y:S.time≤1000000000) (x:1≤a.length) (p:bC a=true) (n:bu S (i+1) a=true):
  ∃d,S.takesF S.time (i+1) a=some d∧d.Ok∧Cx i S d∧(i < S.items.length∧d.stayOf i=bG (S.stayOf i) a)∧∀j,S.items.length≤j→j < d.items.length→vh (d.mailOf j):=by
 have h:=jP p n (Nat.le_refl S.time);have k:=jt p n;have f:=n;rw [dv x,Bool.and_eq_true,decide_eq_true_eq,Nat.add_sub_cancel] at f;obtain ⟨⟨_,w⟩,z⟩:=f;have c:=bm w;rw [Nat.add_sub_cancel] at h k;have r:(aa.outs ⟨S.items,S.time⟩ i a)=S.outs i a:=rfl;rw [r] at h;have q:dq (S.mailOf i):=by rw [bR c];exact (b.sz _ (List.getElem_mem c)).1
 by_cases o:(S.mailOf i).frm=[]
 ·refine ⟨_,h.1 o,b.outs i a,tr S i a,⟨c,iH c⟩,fun j s l=>?_⟩;rw [bF] at l;omega
 ·have m:∀t∈di (S.stayOf i) a,t.length≤255:=by
   intro t g;rw [k,List.mem_map] at g;obtain ⟨j,_,rfl⟩:=g;exact mP q.2.2.2.2.1 j
  have u:(di (S.stayOf i) a).length≤10:=by have:=mf (S.stayOf i) a;have:=dp b i;omega
  have v:=lh _ m;refine ⟨_,h.2 o,(b.outs i a).plus (by rw [bF]) ⟨by show S.items.length+1≤_;omega,by show S.time≤_;omega,by simp,by simp,fun t g=>by simp at g;rw [g];exact q.2.2.1,by show (fu _).length≤_;omega⟩ (by simp) (by simp),(tr S i a).trans (Gc i _ _ rfl),⟨c,?_⟩,fun j s l=>?_⟩
  ·rw [jx (by rw [bF];exact c),iH c]
  ·rw [dz,bF] at l;obtain rfl:j=(S.outs i a).items.length:=by rw [bF];omega
   rw [fD];refine ⟨rfl,rfl,_,?_,rfl⟩;rw [k];intro e;have:=congrArg List.length e;rw [List.length_map,List.length_nil] at this;omega
def kH (x:aa×List UInt8) (i:Nat) (ps:List Nat):aa×List UInt8:=if ps=[] then x else (x.1.outs i ps,x.2++fi (71::aY (i+1) ps))
def kG (x:aa×List UInt8) (i:Nat) (ps:List Nat):aa×List UInt8:=if ps=[] then x else ((x.1.takesF x.1.time (i+1) ps).getD x.1,x.2++fi (70::(aB 4 x.1.time++aY (i+1) ps)))
def kj (x:aa×List UInt8) (i:Nat) (gs fs:List Nat):aa×List UInt8:=kG (kH x i gs) i fs
structure uf (x:aa×List UInt8):Prop where
 ok:x.1.Ok
 led:yq x.1 x.2
 time:x.1.time≤1000000000
structure Left (x y:aa×List UInt8) (i:Nat) (ps:List Nat):Prop where
 ok:uf y
 aft:Cx i x.1 y.1
 stay:y.1.stayOf i=bG (x.1.stayOf i) ps
 new:∀j,x.1.items.length≤j→j < y.1.items.length→vh (y.1.mailOf j)
theorem Ah (l:List (Nat×List UInt8)):bG l []=l:=by unfold bG;simp
theorem Left.none {x:aa×List UInt8} (h:uf x) (i:Nat):Left x x i []:=⟨h,Cx.refl _ _,(Ah _).symm,fun j a b=>by omega⟩
theorem Dv {x:aa×List UInt8} (h:uf x) {i:Nat} {a:List Nat} (c:a.length≤100) (b:a≠[]→bu x.1 (i+1) a=true):Left x (kH x i a) i a:=by
 unfold kH
 split
 ·rename_i e;subst e;exact Left.none h i
 ·rename_i e
  have f:1≤a.length:=List.length_pos_iff.2 e;have b:=b e;have g:=zR f b;rw [Nat.add_sub_cancel] at g;have k:1≤(if (x.1.mailOf i).frm=[] then 1 else 2):=by split <;> omega
  have m:=bF x.1 i a;rw [dv f,Bool.and_eq_true,decide_eq_true_eq,Nat.add_sub_cancel] at b
  exact ⟨⟨h.ok.outs i a,h.led.less (by show (x.1.outs i a).pot+1≤_;omega) (by show (x.1.outs i a).items.length+(x.1.outs i a).pot≤_;omega) (zg (T:=0) c).1,h.time⟩,tr _ _ _,iH (bm b.1.2),fun j l d=>by
   have d:j < (x.1.outs i a).items.length:=d
   omega⟩
theorem pN {x:aa×List UInt8} (h:uf x) {i:Nat} {a:List Nat} (b:a.length≤100) (o:bC a=true) (n:a≠[]→bu x.1 (i+1) a=true):Left x (kG x i a) i a∧(a≠[]→x.1.takesF x.1.time (i+1) a=some (kG x i a).1):=by
 unfold kG
 split
 ·rename_i e;subst e;exact ⟨Left.none h i,fun e=>absurd rfl e⟩
 ·rename_i e
  have f:1≤a.length:=List.length_pos_iff.2 e;obtain ⟨j,c,k,d,l,m⟩:=Bb h.ok (by have:=h.led.items;omega) h.time f o (n e);have g:=Ed f c;rw [c,Option.getD_some];exact ⟨⟨⟨k,h.led.less g.1 g.2.1 (zg b).2,by show j.time≤_;rw [d.time];exact h.time⟩,d,l.2,m⟩,fun _=>rfl⟩
theorem qG {x:aa×List UInt8} (h:uf x) {i:Nat} {gs fs:List Nat} (s:i∈x.1.live) (d:gs.length≤100) (c:fs.length≤100) (f:bC fs=true) (q:∀p∈gs,p∈(x.1.stayOf i).map (·.1)) (o:∀p∈fs,p∈(x.1.stayOf i).map (·.1)) (n:∀p∈gs,p ∉ fs):
  (gs≠[]→bu x.1 (i+1) gs=true)∧Left x (kH x i gs) i gs∧(fs≠[]→bu (kH x i gs).1 (i+1) fs=true)∧Left (kH x i gs) (kj x i gs fs) i fs∧(fs≠[]→(kH x i gs).1.takesF (kH x i gs).1.time (i+1) fs=some (kj x i gs fs).1):=by
 have k:gs≠[]→bu x.1 (i+1) gs=true:=fun e=>BF s (List.length_pos_iff.2 e) q;have g:=Dv h d k
 have m:fs≠[]→bu (kH x i gs).1 (i+1) fs=true:=fun e=>by
  have j:∀p∈fs,p∈((kH x i gs).1.stayOf i).map (·.1):=fun p b=>by
   rw [g.stay];obtain ⟨r,f,e⟩:=List.mem_map.1 (o p b);refine List.mem_map.2 ⟨r,List.mem_filter.2 ⟨f,?_⟩,e⟩;rw [Bool.not_eq_true',←Bool.not_eq_true];intro a;rw [e] at a;exact n p (List.contains_iff_mem.1 a) b
  refine BF (xI fun a=>?_) (List.length_pos_iff.2 e) j
  obtain ⟨p,b⟩:∃p,p∈fs:=by
   cases fs with
   | nil=>exact absurd rfl e
   | cons p l=>exact ⟨p,by simp⟩
  have:=j p b;rw [a] at this
  cases this
 obtain ⟨t,u⟩:=pN g.ok c f m;exact ⟨k,g,m,t,u⟩
open Go.RowKit
def cR (x:Nat×Bool):Value:= .agg #[.int .i64 x.1,.bool x.2]
def dZ (pp pb ch:Nat) (va vu vl:Value) (frm body:List UInt8) (over:Bool) (t:aP):Array Value:=
 #[.pointer (some ⟨pp,0,none⟩),.pointer (some ⟨pb,0,none⟩),.int .i64 ((t.i:Int)+1),.string (bs frm),va,.string (bs body),.int .i64 t.said,vu,vl,.chan (some ch),.bool over]
structure bM (w:World) (tb ch pp pb:Nat) (va vu vl:Value) (frm body:List UInt8) (cap:Nat) (over:Bool) (t:aP):Prop where
 blk:w.heap[tb]? =some (.cells (dZ pp pb ch va vu vl frm body over t) 153 (0,0))
 chan:∃s r,w.heap[ch]? =some (.chan cap (t.came.map cR).toArray false s r false)
 una:aZ w vu t.una.length 2 (aL t.una)
 wil:w.ownsRow 0 162 2 vl t.wil.length (aL t.wil)
 ua:∀k,vu.ownBlock=some k→va.ownBlock=some k
 al:∀k,vl.ownBlock=some k→va.ownBlock≠some k
 at_:∀k,va.ownBlock=some k→k≠tb∧k≠ch∧k < w.heap.size
def kK (tb ch:Nat) (va vl:Value) (k:Nat):Prop:=k=tb∨k=ch∨va.ownBlock=some k∨vl.ownBlock=some k
section
variable {w w':World} {tb ch pp pb:Nat} {va vu vl:Value} {frm body:List UInt8} {cap:Nat} {over:Bool} {t:aP} {B:Nat→Prop}
theorem bM.cell (h:bM w tb ch pp pb va vu vl frm body cap over t) (j:Nat):w.cell? ⟨tb,j,none⟩=(dZ pp pb ch va vu vl frm body over t)[j]? :=by rw [Lib.cell_of_heap h.blk]
theorem bM.frozen (h:bM w tb ch pp pb va vu vl frm body cap over t) (j:Nat):w.frozen? ⟨tb,j,none⟩=false:=Lib.frozen_of_heap h.blk j
theorem bM.tc (h:bM w tb ch pp pb va vu vl frm body cap over t):tb≠ch:=fun e=>by
 obtain ⟨s,r,a⟩:=h.chan;have:=h.blk;rw [e,a] at this;simp at this
theorem bM.lb (h:bM w tb ch pp pb va vu vl frm body cap over t) {k:Nat} (a:vl.ownBlock=some k):k≠tb∧k≠ch∧k < w.heap.size:=by
 have i:=(j6 h.wil a).2
 rcases h.wil.2 with ⟨e,_⟩ | ⟨g,l,d,e,_,b,_⟩
 ·rw [e] at a;cases a
 ·rw [e] at a;have f:g=k:=by simpa [Value.ownBlock] using a
  subst f;refine ⟨fun c=>?_,fun c=>?_,i⟩
  ·rw [c,h.blk] at b;simp at b
  ·obtain ⟨s,r,j⟩:=h.chan;rw [c,j] at b;simp at b
theorem bM.lt (h:bM w tb ch pp pb va vu vl frm body cap over t) {k:Nat} (b:kK tb ch va vl k):k < w.heap.size:=by
 rcases b with e | e | e | e
 ·rw [e];exact ah h.blk
 ·obtain ⟨s,r,a⟩:=h.chan;rw [e];exact ah a
 ·exact (h.at_ k e).2.2
 ·exact (h.lb e).2.2
theorem bM.chg (h:bM w tb ch pp pb va vu vl frm body cap over t) (a:aF B w w') (b:∀k,kK tb ch va vl k→¬B k):bM w' tb ch pp pb va vu vl frm body cap over t:=by
 obtain ⟨s,r,c⟩:=h.chan;exact ⟨a.some_ h.blk (b _ (.inl rfl)),⟨s,r,a.some_ c (b _ (.inr (.inl rfl)))⟩,h.una.chg a (fun g e=>b g (.inr (.inr (.inl (h.ua g e))))),br h.wil a (fun g e=>b g (.inr (.inr (.inr e)))),h.ua,h.al,fun k e=>⟨(h.at_ k e).1,(h.at_ k e).2.1,Nat.lt_of_lt_of_le (h.at_ k e).2.2 a.size⟩⟩
theorem bM.below (h:bM w tb ch pp pb va vu vl frm body cap over t) (a:Below w.heap.size w w'):bM w' tb ch pp pb va vu vl frm body cap over t:=h.chg (aF.below a:aF (fun _=>False) w w') (fun _ _ e=>e)
theorem bM.put (h:bM w tb ch pp pb va vu vl frm body cap over t) {c b:Value} {a:Bool} {t':aP} (d:aH tb w w') (l:w'.heap[tb]? =some (.cells (dZ pp pb ch va c b frm body a t') 153 (0,0))) (m:t'.came=t.came) (o:aZ w c t'.una.length 2 (aL t'.una)) (n:w.ownsRow 0 162 2 b t'.wil.length (aL t'.wil)) (ua:∀k,c.ownBlock=some k→va.ownBlock=some k) (i:∀k,b.ownBlock=some k→va.ownBlock≠some k∧k≠tb):bM w' tb ch pp pb va c b frm body cap a t':=by
 obtain ⟨s,r,j⟩:=h.chan;exact ⟨l,⟨s,r,by rw [m];exact aJ d j (Ne.symm h.tc)⟩,o.chg (aF.same d) (fun g e f=>(h.at_ g (ua g e)).1 f),br n (aF.same d) (fun g e f=>(i g e).2 f),ua,fun k e=>(i k e).1,fun k e=>⟨(h.at_ k e).1,(h.at_ k e).2.1,Nat.lt_of_lt_of_le (h.at_ k e).2.2 (aF.same d).size⟩⟩
end
def fF (tb ch pp pb:Nat) (va vl:Value) (frm body:List UInt8) (cap:Nat) (w:World) (x:aP×List UInt8) (e:Ending) (w':World):Prop:=
 e= .returned (.string (bs x.2))∧∃vu' vl',bM w' tb ch pp pb va vu' vl' frm body cap false x.1∧aF (kK tb ch va vl) w w'∧∀k,vl'.ownBlock=some k→vl.ownBlock=some k∨w.heap.size≤k
section
variable {w w':World} {tb ch pp pb:Nat} {va vu vl:Value} {frm body:List UInt8} {cap:Nat} {t:aP}
theorem mX (h:bM w tb ch pp pb va vu vl frm body cap false t) (s:Nat) (l:List UInt8) (j:l.length≤100000000000000):
  Calls Tryz.prog 126 #[.pointer (some ⟨tb,0,none⟩),.int .i64 (s:Int),.string (bs l)] w (fF tb ch pp pb va vl frm body cap w (t.say s l)):=by
 have g:w.cell? ⟨tb,6,none⟩=some (.int .i64 t.said):=h.cell 6;have i:=h.frozen 6;have f:=aI l;have a:(bs l++(⟨#[13,10]⟩:ByteArray))=bs (l++[13,10]):=(ca l [13,10]).symm;have d:=Lib.hid a;have b:=Lib.hid h;clear h a;go_enter Tryz.func126,Tryz.ntmps126;go_wp2_with fail
 go_ret;have c:aH tb w (w.setCell ⟨tb,6,none⟩ (.int .i64 (s:Int))):=(aH.refl _ _).setCell _;refine ⟨by rw [d.out];rfl,vu,vl,b.out.put (t':=(t.say s l).1) c (heap_setCell_same w tb 6 _ _ (.int .i64 (s:Int)) b.out.blk) rfl b.out.una b.out.wil b.out.ua (fun k e=>⟨b.out.al k e,(b.out.lb e).1⟩),(aF.same c).mono (fun k _ e=> .inl e),fun k e=> .inl e⟩
theorem fp (h:bM w tb ch pp pb va vu vl frm body cap false t):
  Calls Tryz.prog 127 #[.pointer (some ⟨tb,0,none⟩)] w (fF tb ch pp pb va vl frm body cap w t.quit):=by
 have c:=Lib.hid (mX h 6 [81,85,73,84] (by decide));clear h;go_enter Tryz.func127,Tryz.ntmps127;go_wp2_with fail
 refine c.out.mono ?_;rintro e d ⟨rfl,a⟩;have b:=Lib.hid a;clear a;go_wp2_with fail
 go_ret;exact ⟨rfl,b.out⟩
theorem oD (h:bM w tb ch pp pb va vu vl frm body cap false t) (hz:∀x∈t.una,x.2.length≤1000) (z:t.una.length≤1000) (v:t.wil.length≤1000):
  Calls Tryz.prog 128 #[.pointer (some ⟨tb,0,none⟩)] w (fF tb ch pp pb va vl frm body cap w t.ask):=by
 obtain ⟨A,Q,o⟩:=aE h.una;obtain ⟨O,P,p⟩:=aE (aC h.wil);have C:w.cell? ⟨tb,7,none⟩=some (.slice A t.una.length Q):=by rw [←o];exact h.cell 7
 have D:w.cell? ⟨tb,8,none⟩=some (.slice O t.wil.length P):=by rw [←p];exact h.cell 8
 by_cases c:t.una=[]
 ·have R:t.una.length=0:=by rw [c];rfl
  rw [R] at C
  by_cases i:t.wil=[]
  ·have S:t.wil.length=0:=by rw [i];rfl
   rw [S] at D;have l:t.ask=t.quit:=by unfold aP.ask;rw [c];simp [i]
   rw [l];have k:=Lib.hid (fp h);clear h o p c i;go_enter Tryz.func128,Tryz.ntmps128;go_wp2_with fail
   refine k.out.mono ?_;rintro e M ⟨rfl,f⟩;have j:=Lib.hid f;clear f;go_wp2_with fail
   go_ret;exact ⟨rfl,j.out⟩
  ·have V:(0:Int) < (t.wil.length:Int):=by have:=List.length_pos_iff.2 i;omega
   have l:t.ask=t.say 4 [68,65,84,65]:=by unfold aP.ask;rw [c];simp [i]
   rw [l];have k:=Lib.hid (mX h 4 [68,65,84,65] (by decide));obtain ⟨K,n⟩:∃K,t.wil.length=K:=⟨_,rfl⟩;rw [n] at D V v;clear h o p c i n;go_enter Tryz.func128,Tryz.ntmps128;go_wp2_with fail
   refine k.out.mono ?_;rintro e M ⟨rfl,f⟩;have j:=Lib.hid f;clear f;go_wp2_with fail
   go_ret;exact ⟨rfl,j.out⟩
 ·obtain ⟨r,u,s⟩:∃r u,t.una=r::u:=by
   cases e:t.una with
   | nil=>exact absurd e c
   | cons r u=>exact ⟨r,u,rfl⟩
  have U:(0:Int) < (t.una.length:Int):=by have:=List.length_pos_iff.2 c;omega
  have y:=h.una;rw [o] at y
  obtain ⟨b,a,l,W,X⟩:∃b a,A=some ⟨b,a,none⟩∧w.cell? ⟨b,a,none⟩=some (.int .i64 (r.1:Int))∧w.cell? ⟨b,a+1,none⟩=some (.string (bs r.2)):=by
   obtain ⟨a2,c2,q,F⟩:=y.shape;injection q with q _ _;have G:0 < t.una.length:=List.length_pos_iff.2 c;obtain ⟨b,a,E,_,H⟩:=F 0 0 G (by decide);obtain ⟨b',L,g,_,I⟩:=F 0 1 G (by decide);rw [E] at g;injection g with g;injection g with g e5;subst g e5;rw [s] at H I;exact ⟨b,a,q.trans E,by simpa [aL] using H,by simpa [aL] using I⟩
  subst l;have Y:=hz r (by rw [s];simp);have T:t.ask=t.say 3 ([82,67,80,84,32,84,79,58,60]++r.2++[62]):=by unfold aP.ask;rw [s]
  rw [T];have k:=Lib.hid (mX h 3 ([82,67,80,84,32,84,79,58,60]++r.2++[62]) (by simp only [List.length_append,List.length_cons,List.length_nil];omega));have Z:=aI r.2
  have d:((⟨#[82,67,80,84,32,84,79,58,60]⟩:ByteArray)++bs r.2)++(⟨#[62]⟩:ByteArray)=bs ([82,67,80,84,32,84,79,58,60]++r.2++[62]):=by
   rw [←ca ([82,67,80,84,32,84,79,58,60]++r.2) [62],←ca [82,67,80,84,32,84,79,58,60] r.2];rfl
  have N:=Lib.hid d;obtain ⟨J,m⟩:∃J,t.una.length=J:=⟨_,rfl⟩;rw [m] at C U z;clear h o p c d m y;go_enter Tryz.func128,Tryz.ntmps128;go_wp2_with fail
  rw [N.out];refine k.out.mono ?_;rintro e M ⟨rfl,f⟩;have j:=Lib.hid f;clear f;go_wp2_with fail
  go_ret;exact ⟨rfl,j.out⟩
end
def nt:ByteArray:=⟨#[13,10]⟩
def lu (body:List UInt8):List ByteArray:=Lib.splitB nt 0 (Lib.countB (bs body) nt) (bs body)
def j0 (x:ByteArray):ByteArray:=if Lib.hasPrefix x.data.toList [46] then (⟨#[46]⟩:ByteArray)++x else x
def lM (body:List UInt8):List UInt8:=Lib.join (((lu body).map j0).map (·.data.toList)) [13,10]
theorem mG (a:ByteArray):∀(k:Nat) (s:ByteArray),∀x∈Lib.splitB a 0 k s,x.size≤s.size
 | 0,s,x,h=>by rw [Lib.splitB_zero,List.mem_singleton] at h;rw [h];exact Nat.le_refl _
 | k+1,s,x,h=>by
  unfold Lib.splitB at h
  split at h
  ·rw [List.mem_singleton] at h;rw [h];exact Nat.le_refl _
  ·rcases List.mem_cons.1 h with e | e
   ·rw [e,ByteArray.size_extract];omega
   ·have:=mG a k _ x e;rw [ByteArray.size_extract] at this;omega
theorem qE (a:List UInt8):(lu a).length=Lib.countB (bs a) nt+1:=Lib.splitB_all nt (by decide) 0 _ _ rfl
theorem qp (a:List UInt8):Lib.countB (bs a) nt≤a.length:=by
 have:=Lib.countB_le nt (by decide) _ (bs a) (Nat.le_refl _)
 rwa [aI] at this
theorem Fe (x:ByteArray):(j0 x).size≤x.size+1:=by
 unfold j0
 split
 ·rw [ByteArray.size_append];show 1+x.size≤_;omega
 ·omega
theorem G8 {a:List (List UInt8)} {m:Nat} (h:∀x∈a,x.length≤m):Lib.lens a≤a.length * m:=by
 unfold Lib.lens
 induction a with
 | nil=>simp
 | cons x a ih=>
  have c:=ih (fun y b=>h y (List.mem_cons_of_mem _ b));have d:=h x (List.mem_cons_self ..);simp only [List.map_cons,List.sum_cons,List.length_cons,Nat.add_mul];omega
theorem Aa (a:List UInt8) (h:a.length≤1048576):(lM a).length≤10000000000000:=by
 unfold lM
 have c:∀x∈((lu a).map j0).map (·.data.toList),x.length≤1048577:=by
  intro x g;obtain ⟨y,i,rfl⟩:=List.mem_map.1 g;obtain ⟨z,c,rfl⟩:=List.mem_map.1 i;have f:=mG nt _ _ z c;have j:=Fe z;rw [aI] at f;show (j0 z).data.toList.length≤_;rw [Array.length_toList];have:(j0 z).data.size=(j0 z).size:=rfl;omega
 have b:(((lu a).map j0).map (·.data.toList)).length=Lib.countB (bs a) nt+1:=by rw [List.length_map,List.length_map,qE]
 have k:=qp a;have d:=G8 c;obtain ⟨X,e⟩:∃X,((lu a).map j0).map (·.data.toList)=X:=⟨_,rfl⟩;rw [e] at b d ⊢;rw [b] at d
 cases X with
 | nil=>simp at b
 | cons x r=>
  rw [Lib.join_length];simp only [List.length_cons] at b;have:(Lib.countB (bs a) nt+1) * 1048577≤1048577 * 1048577:=Nat.mul_le_mul_right _ (by omega);show 2 * r.length+_≤_;omega
def zH (X:List ByteArray) (k:Nat):List ByteArray:=(X.take k).map j0++X.drop k
theorem Hd {X:List ByteArray} {k:Nat} (h:k < X.length):(zH X k)[k]? =some X[k]:=by
 unfold zH;rw [List.getElem?_append_right (by rw [List.length_map,List.length_take];omega),List.length_map,List.length_take,Nat.min_eq_left (Nat.le_of_lt h),Nat.sub_self,List.getElem?_drop,Nat.add_zero,List.getElem?_eq_getElem h]
theorem zI {X:List ByteArray} {k:Nat} (h:k < X.length):zH X (k+1)=(X.take k).map j0++(j0 X[k]::X.drop (k+1)):=by
 unfold zH;rw [List.take_succ_eq_append_getElem h,List.map_append,List.append_assoc];rfl
theorem He {X:List ByteArray} {k:Nat} (h:k < X.length):(zH X k).set k (j0 X[k])=zH X (k+1):=by
 rw [zI h];unfold zH;rw [List.set_append_right _ _ (by rw [List.length_map,List.length_take];omega),List.length_map,List.length_take,Nat.min_eq_left (Nat.le_of_lt h),Nat.sub_self,List.drop_eq_getElem_cons h];rfl
theorem FN {X:List ByteArray} {k:Nat} (h:k < X.length) (a:j0 X[k]=X[k]):zH X k=zH X (k+1):=by
 rw [zI h,a];unfold zH;rw [List.drop_eq_getElem_cons h]
theorem FO (X:List ByteArray):zH X 0=X:=by simp [zH]
theorem Hc (X:List ByteArray):zH X X.length=X.map j0:=by simp [zH]
def p9 (l:List ByteArray):Array Value:=(l.map Value.string).toArray
theorem Cm (l:List ByteArray) (k:Nat) (y:ByteArray):(p9 l).setIfInBounds k (.string y)=p9 (l.set k y):=by simp [p9,List.map_set]
theorem tJ (l:List ByteArray) (k:Nat):(p9 l)[k]? =l[k]?.map Value.string:=by simp [p9]
theorem yg (a:List UInt8) (m:Int) (w:World) (T:w.cell? ⟨0,0,none⟩=some (.int .i64 m)) (Y:a.length≤1048576):
  Calls Tryz.prog 130 #[.string (bs a)] w fun e n=>e= .returned (.string (bs (lM a)))∧Below w.heap.size w n:=by
 have M:=aI a;have s:=Lib.hid (Tryz.strings_Split (bs a) ⟨#[13,10]⟩ m w (by omega) T (by decide));have f:=qE a;have I:=qp a;have q:Hid (∀x∈lu a,x.size≤a.length):=Lib.hid (fun x N=>by have:=mG nt _ _ x N;rwa [aI] at this);have E:=Lib.hid (Aa a Y);obtain ⟨X,g⟩:∃X,lu a=X:=⟨_,rfl⟩;have t:Lib.splitB ⟨#[13,10]⟩ 0 (Lib.countB (bs a) ⟨#[13,10]⟩) (bs a)=X:=g;have R:Lib.countB (bs a) ⟨#[13,10]⟩+1=X.length:=by rw [←g];exact f.symm
 have W:X.length≤1048577:=by rw [←g,f];omega
 have r:Hid (lM a=Lib.join ((X.map j0).map (·.data.toList)) [13,10]):=Lib.hid (by unfold lM;rw [g]);rw [g] at q;rw [t,R] at s;obtain ⟨A,b⟩:∃A:World,w.alloc (.cells (X.map Value.string).toArray 9)=A:=⟨_,rfl⟩;have O:Below w.heap.size w A:=by rw [←b];exact (Below.refl _ _).alloc (Nat.le_refl _) _
 have Q:A.heap[w.heap.size]? =some (.cells (X.map Value.string).toArray 9 (0,0)):=by rw [←b];exact heap_alloc_new w _
 have F:=Lib.hid b;have B:=Lib.hid O;have G:=Lib.hid Q;clear T g t R f I O Q b M;go_enter Tryz.func130,Tryz.ntmps130;go_wp2_with fail
 refine s.out.mono ?_;rintro e w1 ⟨rfl,rfl⟩;rw [F.out];go_wp2_with fail
 go_loopw [4,5,10] (fun _ _ i n=>∃k:Nat,k≤X.length∧i= .int .i64 k∧Hid (n.heap[w.heap.size]? =some (.cells (p9 (zH X k)) 9 (0,0)))∧Hid (Below w.heap.size w n)) (fun _ _ i _=>X.length - (intOf i).toNat)
 case atStart=>exact ⟨0,Nat.zero_le _,rfl,Lib.hid (by rw [FO];exact G.out),B⟩
 case round=>
  obtain ⟨k,hk,rfl,d,v⟩:=hrel
  by_cases c:k < X.length
  ·have S:(k:Int) < (X.length:Int):=by omega
   have N:wr.cell? ⟨w.heap.size,k,none⟩=some (.string X[k]):=by rw [Lib.cell_of_heap d.out,tJ,Hd c];rfl
   have fx:=Lib.frozen_of_heap d.out k;have L:=q.out X[k] (List.getElem_mem c);have p:=Lib.hid (He c);have o:Hid (j0 X[k]=X[k]→zH X k=zH X (k+1)):=Lib.hid (FN c);obtain ⟨x,H⟩:∃x,X[k]=x:=⟨_,rfl⟩;rw [H] at N L p o;have z:Hid (Calls Tryz.prog 178 #[.string x,.string ⟨#[46]⟩] wr fun e n=>e= .returned (.bool (Lib.hasPrefix x.data.toList [46]))∧wr=n):=Lib.hid ((Tryz.strings_HasPrefix x ⟨#[46]⟩ wr).mono fun _ _ h=>⟨h.1,h.2.symm⟩);have U:¬9223372036854775807 < 1+x.size:=by omega
   cases l:Lib.hasPrefix x.data.toList [46] with
   | true=>
    have D:Hid (j0 x=(⟨#[46]⟩:ByteArray)++x):=Lib.hid (by unfold j0;rw [l];rfl);rw [l] at z;clear l H;go_wp2_with (first | (go_at_call 178;refine z.out.mono ?_;rintro e V ⟨rfl,rfl⟩) | fail)
    refine ⟨⟨k+1,by omega,by go_num,Lib.hid ?_,Lib.hid (v.out.trans (((aH.refl w.heap.size wr).setCell _).below (Nat.le_refl _)))⟩,by simp [intOf];omega⟩
    rw [heap_setCell_same wr w.heap.size k _ _ _ d.out,Cm,←p.out,D.out]
   | false=>
    have D:Hid (j0 x=x):=Lib.hid (by unfold j0;rw [l];rfl);rw [l] at z;clear l H;go_wp2_with (first | (go_at_call 178;refine z.out.mono ?_;rintro e V ⟨rfl,rfl⟩) | fail)
    exact ⟨⟨k+1,by omega,by go_num,Lib.hid (by rw [d.out,o.out D.out]),v⟩,by simp [intOf];omega⟩
  ·have J:k=X.length:=by omega
   subst J;rw [Hc] at d;have K:(X.map j0).length=X.length:=List.length_map ..
   have P:=Lib.hid (Tryz.strings_Join w.heap.size 0 X.length (X.map j0) ⟨#[13,10]⟩ wr (fun j y Z=>by
    rw [Nat.zero_add,Lib.cell_of_heap d.out,tJ,Z];rfl) (ah d.out) (by omega) (by omega) (by
    have:=E.out;rw [r.out] at this;have e:(⟨#[13,10]⟩:ByteArray).data.toList=[13,10]:=rfl;rw [e]
    omega))
   rw [K,show (⟨#[13,10]⟩:ByteArray).data.toList=[13,10] from rfl,←r.out] at P;go_wp2_with fail
   refine P.out.mono ?_;rintro e V ⟨rfl,u⟩;have C:=Lib.hid (v.out.trans (u.mono v.out.size));clear u;go_wp2_with fail
   go_ret;exact ⟨rfl,C.out⟩
end Go.Proofs.YtofpegbpgkkgkaaGreatDoor
