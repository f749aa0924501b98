import Derived.Test.YtofpegbpgkkgkaaGreatDoorS37
namespace Go.Proofs.YtofpegbpgkkgkaaGreatDoor
set_option maxHeartbeats 8000000
set_option maxRecDepth 1000000
open Go.RowKit
def Ce (base:Nat) (w:World) (pp:Nat) (l:List UInt8):Prop:=
 ∃pb mb q vr,(∃C:Array Value,w.heap[pp]? =some (.cells C 88 (0,0))∧C[9]? =some (.pointer (some ⟨pb,0,none⟩)))∧bh base w pb mb q vr (bw l).1∧(bw l).1.Ok∧kl w vr (l.take (bw l).2)∧base≤pp∧∀g,vr.ownBlock=some g→base≤g
theorem Ce.keep {a c:Nat} {w d:World} {l:List UInt8} (h:Ce a w c l) (b:Below w.heap.size w d):Ce a d c l:=by
 obtain ⟨n,m,q,o,⟨C,e,k⟩,f,g,i,j⟩:=h;exact ⟨n,m,q,o,⟨C,ae b e,k⟩,f.keep b,g,i.keep b,j⟩
structure Nw (x y:bp×List UInt8) (i:Nat) (ps:List Nat):Prop where
 left:Left x y i ps
 quiet:(x.1.mailOf i).frm=[]→y.1.items.length=x.1.items.length
 loud:(x.1.mailOf i).frm≠[]→y.1.items.length=x.1.items.length+1∧(y.1.mailOf x.1.items.length).frm=[]∧(y.1.mailOf x.1.items.length).tos=[(x.1.mailOf i).frm]∧(y.1.mailOf x.1.items.length).body=fY (dx (x.1.stayOf i) ps)∧gy (y.1.stayOf x.1.items.length)=[(x.1.mailOf i).frm]
theorem Md {x:bp×List UInt8} (h:oK x) {i:Nat} {a:List Nat} (r:i∈x.1.live) (k:a.length≤100) (m:bF a=true) (s:∀p∈a,p∈(x.1.stayOf i).map (·.1)) (d:a≠[]):Nw x (jr x i a) i a:=by
 have t:1≤a.length:=List.length_pos_iff.2 d;have b:=Dd r t s;obtain ⟨q,g⟩:=nP h k m (fun _=>b);have g:=g d;obtain ⟨n,o⟩:=kf (S:=x.1) (T:=x.1.time) m b (Nat.le_refl _);rw [Nat.add_sub_cancel] at n o;refine ⟨q,fun j=>?_,fun j=>?_⟩
 ·have e:=n j;rw [g] at e;injection e with e;rw [e];exact bL ⟨x.1.items,x.1.time⟩ i a
 ·have e:=o j;rw [g] at e;injection e with e;have l:(bp.outs ⟨x.1.items,x.1.time⟩ i a).items.length=x.1.items.length:=bL ⟨x.1.items,x.1.time⟩ i a;have c:=dN (bp.outs ⟨x.1.items,x.1.time⟩ i a) ⟨x.1.items.length+1,x.1.time,[],[(x.1.mailOf i).frm],fY (dx (x.1.stayOf i) a)⟩;have f:=mB (bp.outs ⟨x.1.items,x.1.time⟩ i a) ⟨x.1.items.length+1,x.1.time,[],[(x.1.mailOf i).frm],fY (dx (x.1.stayOf i) a)⟩;rw [l] at c f;rw [e,dv,l,c,f];exact ⟨rfl,rfl,rfl,rfl,rfl⟩
theorem LR (c:Int):∀(l:List Nat) {x:bp×List UInt8},oK x→l.Nodup→(∀i∈l,i∈x.1.live)→(∀i∈l,(x.1.mailOf i).frm=[])→(dw c x l).1.items.length=x.1.items.length∧oK (dw c x l)∧(∀j,j < x.1.items.length→(dw c x l).1.mailOf j=x.1.mailOf j)∧(∀j,j < x.1.items.length→j ∉ l→(dw c x l).1.stayOf j=x.1.stayOf j)∧(dw c x l).1.time=x.1.time
 | [],x,h,_,_,_=>⟨rfl,h,fun _ _=>rfl,fun _ _ _=>rfl,rfl⟩
 | i::l,x,h,hn,hl,hf=>by
  obtain ⟨a,b,_⟩:=F5 h (hl i (List.mem_cons_self ..)) c
  have f:(kW c x i).1.items.length=x.1.items.length:=by
   unfold kW
   split
   ·obtain ⟨n,o,w⟩:=ud h (hl i (List.mem_cons_self ..))
    by_cases m:(x.1.stayOf i).map (·.1)=[]
    ·unfold jr;rw [if_pos m]
    ·exact (Md h (hl i (List.mem_cons_self ..)) n o (fun p q=>q) m).quiet (hf i (List.mem_cons_self ..))
   ·rfl
  have k:=List.nodup_cons.1 hn
  obtain ⟨r,s,t,u,v⟩:=LR c l (x:=kW c x i) a k.2 (fun j d=>Gj b (hl j (List.mem_cons_of_mem _ d)) (fun e=>k.1 (by rw [←e];exact d))) (fun j d=>by
   rw [b.mail j (bq (hl j (List.mem_cons_of_mem _ d)))]
   exact hf j (List.mem_cons_of_mem _ d))
  have e:dw c x (i::l)=dw c (kW c x i) l:=rfl;rw [e];refine ⟨r.trans f,s,fun j d=>(t j (by rw [f];exact d)).trans (b.mail j d),fun j d g=>?_,v.trans b.time⟩;rw [u j (by rw [f];exact d) (fun e=>g (List.mem_cons_of_mem _ e))];exact b.stay j d (fun e=>g (by rw [e];exact List.mem_cons_self ..))
theorem My {L c:List (Nat×List UInt8)} (d:c.Sublist L) (b:(L.map (·.1)).Nodup):L.filter (fun r=>(c.map (·.1)).contains r.1)=c:=by
 induction d with
 | slnil=>rfl
 | @cons l1 l2 a d ih=>
  rw [List.map_cons,List.nodup_cons] at b
  have g:(l1.map (·.1)).contains a.1=false:=by
   rw [←Bool.not_eq_true,List.contains_iff_mem];exact fun e=>b.1 ((d.map (·.1)).subset e)
  rw [List.filter_cons_of_neg (by rw [g];decide)];exact ih b.2
 | @cons_cons l1 l2 a d ih=>
  rw [List.map_cons,List.nodup_cons] at b;rw [List.filter_cons_of_pos (by rw [List.contains_iff_mem,List.map_cons];exact List.mem_cons_self ..)]
  congr 1
  rw [←ih b.2];refine List.filter_congr fun r h=>?_;have f:r.1≠a.1:=fun e=>b.1 (by rw [←e];exact List.mem_map_of_mem h);rw [Bool.eq_iff_iff,List.contains_iff_mem,List.contains_iff_mem,List.map_cons,List.mem_cons,ih b.2];exact ⟨fun e=>e.resolve_left f,.inr⟩
section
variable {L:List (Nat×List UInt8)} {cd:Nat→Nat}
theorem Mb:∀k,k≤L.length→(ks L cd k).Sublist (L.take k)∧(mc L cd k).Sublist (L.take k)
 | 0,_=>⟨by simp [ks],by simp [mc]⟩
 | k+1,h=>by
  obtain ⟨a,b⟩:=Mb k (by omega);rw [List.take_succ_eq_append_getElem (by omega:k < L.length)];have e:(L[k]?).toList=[L[k]]:=by rw [List.getElem?_eq_getElem (by omega)];rfl
  unfold ks mc;rw [e]
  constructor
  ·refine a.append ?_
   split
   ·exact List.Sublist.refl _
   ·exact List.nil_sublist _
  ·refine b.append ?_
   split
   ·exact List.Sublist.refl _
   ·exact List.nil_sublist _
theorem Mw (j:L.Nodup):∀k,k≤L.length→(∀r,r∈ks L cd k→r∈mc L cd k→False)∧(mc L cd k).length+(ks L cd k).length≤k
 | 0,_=>⟨(fun r h _=>by cases h),Nat.le_refl _⟩
 | k+1,h=>by
  obtain ⟨a,b⟩:=Mw j k (by omega);obtain ⟨m,n⟩:=Mb (L:=L) (cd:=cd) k (by omega);have e:(L[k]?).toList=[L[k]]:=by rw [List.getElem?_eq_getElem (by omega)];rfl
  have g:L[k] ∉ L.take k:=fun l=>by
   have f:(L.take k++[L[k]]).Nodup:=by
    rw [←List.take_succ_eq_append_getElem (by omega:k < L.length)];exact j.sublist (List.take_sublist _ _)
   rw [List.nodup_append] at f;exact f.2.2 _ l _ (List.mem_singleton.2 rfl) rfl
  unfold ks mc;rw [e]
  by_cases f:cd k=250
  ·have i:¬cd k=550:=by omega
   rw [if_pos f,if_neg i,List.append_nil,List.length_append];refine ⟨fun r d c=>?_,by simp only [List.length_singleton];omega⟩
   rcases List.mem_append.1 d with d | d
   ·exact a r d c
   ·rw [List.mem_singleton.1 d] at c;exact g (n.subset c)
  ·rw [if_neg f,List.append_nil]
   by_cases i:cd k=550
   ·rw [if_pos i,List.length_append];refine ⟨fun r d c=>?_,by simp only [List.length_singleton];omega⟩
    rcases List.mem_append.1 c with c | c
    ·exact a r d c
    ·rw [List.mem_singleton.1 c] at d;exact g (m.subset d)
   ·rw [if_neg i,List.append_nil];exact ⟨a,by omega⟩
end
theorem Ml (a:Int):∀(l:List Nat) (x:bp×List UInt8),(∀i,¬a≤(x.1.time:Int) - ((x.1.mailOf i).time:Int))→dw a x l=x
 | [],_,_=>rfl
 | i::l,x,h=>by
  have e:kW a x i=x:=by unfold kW;rw [if_neg (h i)]
  show dw a (kW a x i) l=x;rw [e];exact Ml a l x h
section
variable {sd:List UInt8} {g:GS} {A B C:List (List UInt8)} {m i:Nat} {c:bX}
theorem LM.tick (R:c.life=20) (h:LM sd g A B C m i) (F:oK (g.S,g.recs)) (w:g.S.items.length=m) (a:g.S.stayOf 1≠[]):LM sd (yj c g (g.S.time+1)) A B C m (i+1):=by
 obtain ⟨s1,s2,s3,s4⟩:=h.stay a;obtain ⟨U0,b0,Q,J⟩:=h.told
 have eU:U0=[]:=by
  rcases b0 with ⟨_,e⟩ | ⟨e,_⟩
  ·exact e
  ·omega
 subst eU;rw [if_neg a,List.append_nil,List.append_nil] at J
 by_cases ht:g.S.time+1 < 20
 ·have b:(yj c g (g.S.time+1)).S=⟨g.S.items,g.S.time+1⟩:=by
   show (dw c.life (⟨g.S.items,g.S.time+1⟩,g.recs) g.S.live).1=_;rw [R,Ml];intro k;show ¬(20:Int)≤((g.S.time+1:Nat):Int) - _;omega
  have L:(yj c g (g.S.time+1)).S.stayOf 1=g.S.stayOf 1:=by rw [b];rfl
  have l:(yj c g (g.S.time+1)).S.items.length=g.S.items.length:=by rw [b]
  have hr:M7 (yj c g (g.S.time+1))+1≤M7 g:=by
   unfold M7 Mx
   have h1:(List.range (yj c g (g.S.time+1)).S.items.length).countP (LY (yj c g (g.S.time+1)))≤g.S.items.length:=by
    rw [l];refine Nat.le_trans List.countP_le_length ?_;rw [List.length_range];exact Nat.le_refl _
   have h2:(yj c g (g.S.time+1)).S.time=g.S.time+1:=by rw [b]
   rw [L,h2];have h3:=List.length_pos_iff.2 a;omega
  refine ⟨by rw [b];exact ⟨h.base.len,h.base.m0,h.base.m1,h.base.ret⟩,h.tk,h.m2,h.nd,h.sub,⟨[],.inl ⟨by rw [l];exact w,rfl⟩,Q,fun K=>?_⟩,fun _=>?_,by omega⟩
  ·rw [L,if_neg a,List.append_nil,List.append_nil];exact J K
  ·rw [L,l];exact ⟨s1,by rw [b];exact ht,s3,by omega⟩
 ·have hT:g.S.time+1=20:=by omega
  have a6:1∈g.S.live:=zo a;obtain ⟨U,V,el⟩:=List.append_of_mem a6;have T:=gJ g.S;rw [el] at T;have s:=List.nodup_append.1 T;have t:=List.nodup_cons.1 s.2.1;have S:1 ∉ U:=fun e=>s.2.2 1 e 1 (List.mem_cons_self ..) rfl;have v:∀j∈U,j∈g.S.live:=fun j d=>by rw [el];exact List.mem_append.2 (.inl d)
  have n:∀j∈V,j∈g.S.live:=fun j d=>by rw [el];exact List.mem_append.2 (.inr (List.mem_cons_of_mem _ d))
  obtain ⟨x,f⟩:∃x:bp×List UInt8,(⟨g.S.items,g.S.time+1⟩,g.recs)=x:=⟨_,rfl⟩;have b6:oK x:=by rw [←f];exact ⟨F.ok.time _,F.led,by show g.S.time+1≤_;omega⟩
  have i0:x.1.items=g.S.items:=by rw [←f]
  have t0:x.1.time=20:=by rw [←f];exact hT
  have m0:∀j,x.1.mailOf j=g.S.mailOf j:=fun j=>by rw [←f];rfl
  have W:∀j,x.1.stayOf j=g.S.stayOf j:=fun j=>by rw [←f];rfl
  have b7:x.1.live=g.S.live:=by rw [←f];rfl
  have b8:x.1.items.length=g.S.items.length:=by rw [i0]
  obtain ⟨a1,a2,X,a4,a5⟩:=LR c.life U b6 s.1 (fun j d=>by rw [b7];exact v j d) (fun j d=>by
   rw [m0]
   exact h.base.frm (bq (v j d)) (fun e=>S (by rw [←e];exact d)))
  obtain ⟨o,O⟩:∃o,dw c.life x U=o:=⟨_,rfl⟩;rw [O] at a1 a2 X a4 a5;have hb:=h.base.len;have H:o.1.stayOf 1=g.S.stayOf 1:=by rw [a4 1 (by omega) S,W]
  have q:o.1.mailOf 1=Nu sd:=by rw [X 1 (by omega),m0];exact h.base.m1
  have D:1∈o.1.live:=zo (by rw [H];exact a);obtain ⟨f1,f2,f3⟩:=ud a2 D;have a9:(o.1.stayOf 1).map (·.1)≠[]:=by rw [H];simpa using a
  have y:=Md a2 D f1 f2 (fun p hp=>hp) a9
  have et:kW c.life o 1=jr o 1 ((o.1.stayOf 1).map (·.1)):=by
   unfold kW;rw [if_pos];rw [R,a5,t0,q];exact (by decide:(20:Int)≤((20:Nat):Int) - ((0:Nat):Int))
  obtain ⟨x2,a0⟩:∃x2,jr o 1 ((o.1.stayOf 1).map (·.1))=x2:=⟨_,rfl⟩;rw [a0] at y et;have a8:=y.left.aft.len
  obtain ⟨b1,b2,Y,Z,b5⟩:=LR c.life V y.left.ok t.2 (fun j d=>by
   refine Gj y.left.aft (zo ?_) (fun e=>t.1 (by rw [←e];exact d));have z:=n j d;rw [a4 j (by have:=bq z;omega) (fun e=>s.2.2 j e j (List.mem_cons_of_mem _ d) rfl),W];exact (jT.1 z).2) (fun j d=>by
   have z:=bq (n j d);rw [y.left.aft.mail j (by omega),X j (by omega),m0]
   exact h.base.frm z (fun e=>t.1 (by rw [←e];exact d)))
  obtain ⟨M,P⟩:∃M,dw c.life x2 V=M:=⟨_,rfl⟩;rw [P] at b1 b2 Y Z b5
  have b:(yj c g (g.S.time+1)).S=M.1:=by
   show (dw c.life (⟨g.S.items,g.S.time+1⟩,g.recs) g.S.live).1=_;rw [f,el];unfold dw;rw [List.foldl_append,List.foldl_cons];show (dw c.life (kW c.life (dw c.life x U) 1) V).1=_;rw [O,et,P]
  have I:M.1.stayOf 1=[]:=by
   rw [Z 1 (by omega) t.1,y.left.stay];unfold bM;rw [List.filter_eq_nil_iff];intro r hr;rw [Bool.not_eq_true',←Bool.not_eq_true,Classical.not_not,List.contains_iff_mem];exact List.mem_map_of_mem hr
  have u:∀j,j < g.S.items.length→M.1.mailOf j=g.S.mailOf j:=fun j d=>by
   rw [Y j (by omega),y.left.aft.mail j (by omega),X j (by omega),m0]
  have a7:dx (o.1.stayOf 1) ((o.1.stayOf 1).map (·.1))=KX A B:=by
   rw [H,←s1];unfold dx gy
   congr 1
   rw [List.filter_eq_self];intro r hr;rw [List.contains_iff_mem];exact List.mem_map_of_mem hr
  by_cases K:sd=[]
  ·have hq:=y.quiet (by rw [q];exact K);have l:M.1.items.length=g.S.items.length:=by omega
   refine ⟨by rw [b];exact h.base.to (by omega) u (fun j h1 h2=>by omega),h.tk,h.m2,h.nd,h.sub,⟨[],.inl ⟨by rw [b,l];exact w,rfl⟩,Q,fun e=>absurd K e⟩,fun e=>absurd (by rw [b];exact I) e,by omega⟩
  ·obtain ⟨g1,g2,g3,g4,g5⟩:=y.loud (by rw [q];exact K);have N:(o.1.mailOf 1).frm=sd:=by rw [q];rfl
   have G:o.1.items.length=m:=by omega
   rw [N,G] at g3 g5;rw [G] at g1 g2 g4;have E:m ∉ V:=fun e=>by have:=bq (n m e);omega
   have l:M.1.items.length=m+1:=by omega
   refine ⟨by
    rw [b];refine h.base.to (by omega) u (fun j h1 h2=>?_);obtain rfl:j=m:=by omega
    rw [Y j (by omega)]
    exact ⟨g2,g3,K⟩,h.tk,h.m2,h.nd,h.sub,⟨KX A B,.inr ⟨by rw [b];exact l,?_,?_,?_,MF A B,?_⟩,fun e=>absurd e K,fun e=>?_⟩,fun e=>absurd (by rw [b];exact I) e,by omega⟩
   ·rw [b];refine zo fun e=>?_;rw [Z m (by omega) E] at e;rw [e] at g5
    cases g5
   ·rw [b,Y m (by omega),g4,a7]
   ·rw [←s1];unfold gy;simpa using a
   ·rw [b,Z m (by omega) E];exact g5
   ·rw [b,I,if_pos rfl,J e]
end
theorem Nc (i:Nat) (L:List (Nat×List UInt8)) (d:Nat→Nat):(∀p,p∈(MW i L d).took true ↔ p∈(ks L d L.length).map (·.1))∧∀p,p∈(MW i L d).took false ↔ p∈(mc L d L.length).map (·.1):=by
 have f:∀b:Bool,((MW i L d).came.filter fun x=>x.2 == b)=if b then Mo (ks L d L.length) else LU (mc L d L.length):=fun b=>by
  show (LU (mc L d L.length)++Mo (ks L d L.length)).filter _=_;rw [List.filter_append]
  have j:∀l:List (Nat×List UInt8),(LU l).filter (fun x=>x.2 == b)=if b then [] else LU l:=fun l=>by
   unfold LU
   cases b
   ·rw [List.filter_eq_self.2]
    ·rfl
    ·intro a e;obtain ⟨y,_,rfl⟩:=List.mem_map.1 e;rfl
   ·rw [List.filter_eq_nil_iff.2]
    ·rfl
    ·intro a e;obtain ⟨y,_,rfl⟩:=List.mem_map.1 e;simp
  have k:∀l:List (Nat×List UInt8),(Mo l).filter (fun x=>x.2 == b)=if b then Mo l else []:=fun l=>by
   unfold Mo
   cases b
   ·rw [List.filter_eq_nil_iff.2]
    ·rfl
    ·intro a e;obtain ⟨y,_,rfl⟩:=List.mem_map.1 e;simp
   ·rw [List.filter_eq_self.2]
    ·rfl
    ·intro a e;obtain ⟨y,_,rfl⟩:=List.mem_map.1 e;rfl
  rw [j,k]
  cases b
  ·simp
  ·simp
 have h:∀l:List (Nat×List UInt8),(Mo l).map (·.1)=l.map (·.1)∧(LU l).map (·.1)=l.map (·.1):=fun l=>by
  unfold Mo LU;rw [List.map_map,List.map_map];exact ⟨rfl,rfl⟩
 refine ⟨fun p=>?_,fun p=>?_⟩
 ·rw [(oc _ _).mem_iff,f true,if_pos rfl,(h _).1]
 ·rw [(oc _ _).mem_iff,f false,if_neg (by decide),(h _).2]
theorem L8 (S:bp) (i:Nat):((S.stayOf i).map (·.1)).Nodup:=(rX _ _).imp (fun h=>Nat.ne_of_lt h)
theorem LW {L:List (Nat×List UInt8)} (h:(L.map (·.1)).Nodup):L.Nodup:=(List.pairwise_map.1 h).imp (fun h e=>h (by rw [e]))
theorem wA {α:Type} {R:α→α→Prop} (e:∀a b,R a b→R b a):∀{l:List α},l.Pairwise (fun a b=>¬R a b)→∀x∈l,∀y∈l,R x y→x=y
 | [],_,x,hx,_,_,_=>by cases hx
 | z::l,hp,x,hx,y,hy,h=>by
  obtain ⟨d,f⟩:=List.pairwise_cons.1 hp
  rcases List.mem_cons.1 hx with a | a
  ·rcases List.mem_cons.1 hy with b | b
   ·rw [a,b]
   ·exact absurd (by rw [←a];exact h) (d y b)
  ·rcases List.mem_cons.1 hy with b | b
   ·exact absurd (by rw [←b];exact e _ _ h) (d x a)
   ·exact wA e f x a y b h
theorem NA (S:bp) (i:Nat) (f:Nat→Nat):dC (S.stayOf i) (MW i (S.stayOf i) f):=by
 have h:=L8 S i;obtain ⟨L,r⟩:∃L,S.stayOf i=L:=⟨_,rfl⟩;rw [r] at h ⊢;obtain ⟨j,k⟩:=Mb (L:=L) (cd:=f) L.length (Nat.le_refl _);rw [List.take_length] at j k;obtain ⟨p,q⟩:=Mw (cd:=f) (LW h) L.length (Nat.le_refl _)
 have e:(MW i L f).act=(mc L f L.length).map (·.1)++(ks L f L.length).map (·.1):=by
  rw [Kf (by rfl)];show (LU (mc L f L.length)++Mo (ks L f L.length)).map (·.1)=_;unfold LU Mo;rw [List.map_append,List.map_map,List.map_map];rfl
 refine ⟨Nat.le_refl 6,(by show 6=3→_;omega),?_,fun x d=>?_,?_,fun x d=>?_⟩
 ·rw [e,List.nodup_append];refine ⟨h.sublist (k.map _),h.sublist (j.map _),fun a s b t l=>?_⟩;obtain ⟨x,d,rfl⟩:=List.mem_map.1 s;obtain ⟨y,o,rfl⟩:=List.mem_map.1 t;have n:x=y:=wA (R:=fun a b:Nat×List UInt8=>a.1=b.1) (fun _ _ e=>e.symm) (List.pairwise_map.1 h) x (k.subset d) y (j.subset o) l;subst n;exact p x o d
 ·rw [e] at d
  rcases List.mem_append.1 d with d | d
  ·exact (k.map _).subset d
  ·exact (j.map _).subset d
 ·rw [e,List.length_append,List.length_map,List.length_map];exact q
 ·have d:x∈ks L f L.length:=d;exact j.subset d
theorem M4 (x:bp×List UInt8) (i:Nat) (a:List Nat):(i7 x i a).1.items.length=x.1.items.length:=by
 unfold i7
 split
 ·rfl
 ·exact bL _ _ _
theorem MO {L d:List (Nat×List UInt8)} (k:d.Sublist L) (n:(L.map (·.1)).Nodup) (l:(gy L).Nodup) {r:Nat×List UInt8} (j:r∈L):r.1∈d.map (·.1) ↔ r.2∈gy d:=by
 refine ⟨fun h=>?_,fun h=>?_⟩
 ·obtain ⟨y,f,e⟩:=List.mem_map.1 h;have:=wA (R:=fun a b:Nat×List UInt8=>a.1=b.1) (fun _ _ e=>e.symm) (List.pairwise_map.1 n) y (k.subset f) r j e;rw [←this];exact List.mem_map_of_mem f
 ·obtain ⟨y,f,e⟩:=List.mem_map.1 h;have:=wA (R:=fun a b:Nat×List UInt8=>a.2=b.2) (fun _ _ e=>e.symm) (List.pairwise_map.1 l) y (k.subset f) r j e;rw [←this];exact List.mem_map_of_mem f
section
variable {sd:List UInt8} {g:GS} {A B C:List (List UInt8)} {m i:Nat} {c:bX}
theorem LM.tries (hw:c.waits=[1,5,2]) (h:LM sd g A B C m i) (a2:oK (g.S,g.recs)) (d5:g.S.items.length=m) (Y:g.S.stayOf 1≠[]) (b5:(g.d 1).1≤(g.S.time:Int)) (I:Nat→Nat) (w:Option aQ):LM sd (Bt c {g with tk:=w} (MW 1 (g.S.stayOf 1) I)) (A++gy (ks (g.S.stayOf 1) I (g.S.stayOf 1).length)) (B++gy (mc (g.S.stayOf 1) I (g.S.stayOf 1).length)) C m (i+1):=by
 obtain ⟨s1,s2,s3,s4⟩:=h.stay Y;obtain ⟨U0,d7,c6,b4⟩:=h.told
 have eU:U0=[]:=by
  rcases d7 with ⟨_,e⟩ | ⟨e,_⟩
  ·exact e
  ·omega
 subst eU;rw [if_neg Y,List.append_nil,List.append_nil] at b4;have a9:1∈g.S.live:=zo Y;have f:=L8 g.S 1;have s:=NA g.S 1 I;have b0:(g.S.stayOf 1).length≤10:=dk a2.ok 1;obtain ⟨L,eL⟩:∃L,g.S.stayOf 1=L:=⟨_,rfl⟩;obtain ⟨k1,k2⟩:=Nc 1 L I;rw [eL] at f s s1 s3 Y b0 ⊢;obtain ⟨u1,u2⟩:=Mb (L:=L) (cd:=I) L.length (Nat.le_refl _);rw [List.take_length] at u1 u2;obtain ⟨d1,_⟩:=Mw (cd:=I) (LW f) L.length (Nat.le_refl _);obtain ⟨W,eW⟩:∃W,ks L I L.length=W:=⟨_,rfl⟩;obtain ⟨F,eF⟩:∃F,mc L I L.length=F:=⟨_,rfl⟩;rw [eW] at k1 u1 d1 ⊢;rw [eF] at k2 u2 d1 ⊢;obtain ⟨t,et⟩:∃t,MW 1 L I=t:=⟨_,rfl⟩;have a8:t.i=1:=by rw [←et];rfl
 rw [et] at k1 k2 s ⊢;have d4:(KX A B).Nodup:=L5.sublist List.filter_sublist;have N:(gy L).Nodup:=by rw [s1];exact d4
 have c1:∀z,∀p∈t.took z,p∈(g.S.stayOf 1).map (·.1):=fun z p f=>by rw [eL];exact s.sub p (by unfold aQ.act;exact List.mem_append.2 (.inr (ob f)))
 obtain ⟨_,l1,m2,l2,_⟩:=kS (x:=(g.S,g.recs)) (gs:=t.took true) (fs:=t.took false) a2 a9 (by have:=kF s true;omega) (by have:=kF s false;omega) (jg (iu s _)) (c1 _) (c1 _) (fun p h1 h2=>mn s h1 h2)
 have T:(Bt c {g with tk:=w} t).S=(kR (g.S,g.recs) 1 (t.took true) (t.took false)).1:=by
  show (cV g.S g.recs t).1=_;unfold cV;rw [a8]
 obtain ⟨y,ey⟩:∃y,kR (g.S,g.recs) 1 (t.took true) (t.took false)=y:=⟨_,rfl⟩;obtain ⟨H,V⟩:∃H,i7 (g.S,g.recs) 1 (t.took true)=H:=⟨_,rfl⟩;have c0:H.1.items.length=g.S.items.length:=by rw [←V];exact M4 _ _ _
 rw [ey] at l2 T;rw [V] at l1 l2 m2;have d9:=h.base.len;have G:H.1.stayOf 1=bM L (t.took true):=by rw [l1.stay,eL]
 have b7:y.1.stayOf 1=L.filter (fun r=> !((gy W++gy F).contains r.2)):=by
  rw [l2.stay,G];unfold bM;rw [List.filter_filter];refine List.filter_congr fun r S=>?_;have b1:=MO u1 f N S;have b2:=MO u2 f N S;rw [Bool.eq_iff_iff];simp only [Bool.and_eq_true,Bool.not_eq_true',←Bool.not_eq_true,List.contains_iff_mem,List.mem_append,k1,k2,b1,b2]
  constructor
  ·rintro ⟨u,J⟩ K;exact K.elim J u
  ·intro e;exact ⟨fun u=>e (.inr u),fun u=>e (.inl u)⟩
 have a1:gy (y.1.stayOf 1)=KX (A++gy W) (B++gy F):=by
  rw [b7];unfold gy KX
  have u:∀(l:List (Nat×List UInt8)) (q:List UInt8→Bool),(l.filter fun r=>q r.2).map (·.2)=(l.map (·.2)).filter q:=fun l q=>by
   rw [List.filter_map];rfl
  rw [u L (fun x=> !((W.map (·.2)++F.map (·.2)).contains x))];have J:L.map (·.2)=LI.filter fun x=> !((A++B).contains x):=s1;rw [J,List.filter_filter];refine List.filter_congr fun x _=>?_;rw [Bool.eq_iff_iff];simp only [Bool.and_eq_true,Bool.not_eq_true',←Bool.not_eq_true,List.contains_iff_mem,List.mem_append]
  constructor
  ·rintro ⟨u,J⟩ ((K | K) | (K | K))
   ·exact J (.inl K)
   ·exact u (.inl K)
   ·exact J (.inr K)
   ·exact u (.inr K)
  ·intro e;exact ⟨fun u=>e (u.elim (fun z=> .inl (.inr z)) (fun z=> .inr (.inr z))),fun u=>e (u.elim (fun z=> .inl (.inl z)) (fun z=> .inr (.inl z)))⟩
 have n:∀x∈gy L,x∈LI∧x ∉ A++B:=fun x d=>by
  rw [s1] at d;obtain ⟨u,J⟩:=List.mem_filter.1 d;rw [Bool.not_eq_true',←Bool.not_eq_true,List.contains_iff_mem] at J;exact ⟨u,J⟩
 have b3:∀x∈gy W,x∈gy L:=fun x d=>(u1.map (·.2)).subset d;have a5:∀x∈gy F,x∈gy L:=fun x d=>(u2.map (·.2)).subset d
 have O:((A++gy W)++(B++gy F)).Perm ((A++B)++(gy W++gy F)):=by
  rw [List.append_assoc,List.append_assoc];refine List.Perm.append_left A ?_;rw [←List.append_assoc,←List.append_assoc];exact List.perm_append_comm.append_right _
 have d3:((A++gy W)++(B++gy F)).Nodup:=by
  rw [O.nodup_iff,List.nodup_append];refine ⟨h.nd,?_,fun a ha b s a6=>?_⟩
  ·rw [List.nodup_append];refine ⟨N.sublist (u1.map _),N.sublist (u2.map _),fun a ha b s a6=>?_⟩;obtain ⟨x,d,rfl⟩:=List.mem_map.1 ha;obtain ⟨z,hz,rfl⟩:=List.mem_map.1 s;have:=wA (R:=fun a b:Nat×List UInt8=>a.2=b.2) (fun _ _ e=>e.symm) (List.pairwise_map.1 N) x (u1.subset d) z (u2.subset hz) a6;subst this;exact d1 x d hz
  ·rw [a6] at ha
   rcases List.mem_append.1 s with s | s
   ·exact (n b (b3 b s)).2 ha
   ·exact (n b (a5 b s)).2 ha
 have b8:∀x∈(A++gy W)++(B++gy F),x∈LI:=fun x d=>by
  rcases List.mem_append.1 (O.mem_iff.1 d) with d | d
  ·exact h.sub x d
  ·rcases List.mem_append.1 d with d | d
   ·exact (n x (b3 x d)).1
   ·exact (n x (a5 x d)).1
 have E:∀j,j < g.S.items.length→y.1.mailOf j=g.S.mailOf j:=fun j hj=>by rw [l2.aft.mail j (by omega),l1.aft.mail j hj]
 have Z:∀j,j < g.S.items.length→j≠1→y.1.stayOf j=g.S.stayOf j:=fun j hj hn=>by rw [l2.aft.stay j (by omega) hn,l1.aft.stay j hj hn]
 have o:y.1.time=g.S.time:=l2.aft.time.trans l1.aft.time;have d6:(y.1.stayOf 1).length≤L.length:=by rw [b7];exact List.length_filter_le _ _
 obtain ⟨U,c2,c3,c4,e5,c5⟩:∃U,MX sd y.1 m U∧(sd≠[]→U=gy F)∧Mc sd y.1∧y.1.items.length+(y.1.stayOf 1).length≤g.S.items.length+L.length∧(y.1.items.length=g.S.items.length∨y.1.items.length=g.S.items.length+1):=by
  by_cases X:F=[]
  ·have c8:t.took false=[]:=by
    rw [List.eq_nil_iff_forall_not_mem];intro p f;rw [k2,X] at f
    cases f
   have hy:y=H:=by rw [←ey];show jr (i7 _ _ _) _ _=_;rw [V,c8];unfold jr;rw [if_pos rfl]
   have d8:y.1.items.length=g.S.items.length:=by rw [hy];exact c0
   exact ⟨[],.inl ⟨by omega,rfl⟩,fun _=>by rw [X];rfl,h.base.to (by omega) E (fun j h1 h2=>by omega),by omega,.inl d8⟩
  ·obtain ⟨r0,a0⟩:=List.exists_mem_of_ne_nil _ X
   have D:∀r∈F,r∈H.1.stayOf 1:=fun r S=>by
    rw [G];refine List.mem_filter.2 ⟨u2.subset S,?_⟩;rw [Bool.not_eq_true',←Bool.not_eq_true,List.contains_iff_mem,k1];intro e;obtain ⟨z,hz,e⟩:=List.mem_map.1 e;have:=wA (R:=fun a b:Nat×List UInt8=>a.1=b.1) (fun _ _ e=>e.symm) (List.pairwise_map.1 f) z (u1.subset hz) r (u2.subset S) e;subst this;exact d1 z hz S
   have b6:t.took false≠[]:=fun e=>by
    have:=(k2 r0.1).2 (List.mem_map_of_mem a0);rw [e] at this
    cases this
   have d2:1∈H.1.live:=zo fun e=>by
    have:=D r0 a0;rw [e] at this
    cases this
   have a4:=Md l1.ok d2 (by have:=kF s false;omega) (jg (iu s false)) (fun p f=>by
    rw [k2] at f;obtain ⟨r,S,rfl⟩:=List.mem_map.1 f
    exact List.mem_map_of_mem (D r S)) b6
   have hy:jr H 1 (t.took false)=y:=by rw [←ey,←V];rfl
   rw [hy] at a4
   have d0:(y.1.stayOf 1).length+1≤L.length:=by
    rw [l2.stay];have h5:=IA (l:=H.1.stayOf 1) (ps:=t.took false) ((k2 r0.1).2 (List.mem_map_of_mem a0)) (List.any_eq_true.2 ⟨r0,D r0 a0,by simp⟩);have h6:(H.1.stayOf 1).length≤L.length:=by rw [G];exact List.length_filter_le _ _
    omega
   have c9:dx (H.1.stayOf 1) (t.took false)=gy F:=by
    unfold dx gy
    congr 1
    rw [G];unfold bM;rw [List.filter_filter];have:=My u2 f;rw [←this];refine List.filter_congr fun r S=>?_;rw [Bool.eq_iff_iff];simp only [Bool.and_eq_true,Bool.not_eq_true',←Bool.not_eq_true,List.contains_iff_mem,k1,k2];refine ⟨fun e=>e.1,fun e=>⟨e,fun J=>?_⟩⟩;obtain ⟨z,hz,ez⟩:=List.mem_map.1 e;have K:=wA (R:=fun a b:Nat×List UInt8=>a.1=b.1) (fun _ _ e=>e.symm) (List.pairwise_map.1 f) z (u2.subset hz) r S ez;subst K;obtain ⟨v,hv,ev⟩:=List.mem_map.1 J;have e4:=wA (R:=fun a b:Nat×List UInt8=>a.1=b.1) (fun _ _ e=>e.symm) (List.pairwise_map.1 f) v (u1.subset hv) z S ev;subst e4;exact d1 v hv hz
   have M:(H.1.mailOf 1).frm=sd:=by rw [l1.aft.mail 1 (by show 1 < g.S.items.length;omega)];show (g.S.mailOf 1).frm=sd;rw [h.base.m1];rfl
   by_cases hs:sd=[]
   ·have hq:=a4.quiet (by rw [M];exact hs);exact ⟨[],.inl ⟨by omega,rfl⟩,fun e=>absurd hs e,h.base.to (by omega) E (fun j h1 h2=>by omega),by omega,.inl (by omega)⟩
   ·obtain ⟨g1,g2,g3,g4,g5⟩:=a4.loud (by rw [M];exact hs);have a3:H.1.items.length=m:=by omega
    rw [M,a3] at g3 g5;rw [a3] at g1 g2 g4;refine ⟨gy F,.inr ⟨g1,zo fun e=>?_,by rw [g4,c9],?_,MV ?_ (fun x d=>(n x (a5 x d)).1),g5⟩,fun _=>rfl,h.base.to (by omega) E (fun j h1 h2=>?_),by omega,.inr (by omega)⟩
    ·rw [e] at g5;cases g5
    ·unfold gy;simpa using X
    ·unfold gy;rw [List.length_map];have:=u2.length_le;omega
    ·obtain rfl:j=m:=by omega
     exact ⟨g2,g3,hs⟩
 have ed:∀k,k < g.S.items.length→(Bt c {g with tk:=w} t).d k=if k=1 then ((g.S.time:Int)+kH c.waits (g.d 1).2,(g.d 1).2+1) else g.d k:=fun k hk=>by
  show Aw g.S (cV g.S g.recs t).1 g.d t c.waits k=_;unfold Aw;rw [a8]
  split
  ·rfl
  ·unfold oS;rw [if_pos hk]
 have c7:(List.range g.S.items.length).countP (LY (Bt c {g with tk:=w} t))+1≤Mx g:=by
  refine LN (P:=LY (Bt c {g with tk:=w} t)) (Q:=LY g) (a:=1) (l:=List.range g.S.items.length) List.nodup_range (List.mem_range.2 (by omega)) (decide_eq_true ⟨a9,b5⟩) ?_ (fun x d a7 f=>?_)
  ·unfold LY;rw [T,ed 1 (by omega),if_pos rfl,hw,o];have:=MJ (g.d 1).2;refine decide_eq_false fun e=>?_;have J:(g.S.time:Int)+kH [1,5,2] (g.d 1).2≤(g.S.time:Int):=e.2;omega
  ·have d:=List.mem_range.1 d;unfold LY at f ⊢;rw [T,ed x d,if_neg a7,o] at f;have f:=of_decide_eq_true f;refine decide_eq_true ⟨zo ?_,f.2⟩;rw [←Z x d a7];exact (jT.1 f.1).2
 have e0:M7 (Bt c {g with tk:=w} t)+1≤M7 g:=by
  unfold M7
  have e6:Mx (Bt c {g with tk:=w} t)+g.S.items.length+1≤Mx g+y.1.items.length:=by
   unfold Mx at c7 ⊢;rw [T]
   rcases c5 with e | e
   ·rw [e];omega
   ·rw [e,List.range_succ,List.countP_append];have:([g.S.items.length].countP (LY (Bt c {g with tk:=w} t)))≤1:=List.countP_le_length;omega
  rw [T,o,eL];omega
 refine ⟨by rw [T];exact c4,rfl,h.m2,d3,b8,⟨U,by rw [T];exact c2,c6,fun hs=>?_⟩,fun a7=>?_,by omega⟩
 ·rw [b4 hs,c3 hs,T]
  split
  ·rename_i e
   rw [←a1,e];simp [gy]
  ·rw [List.append_nil]
 ·rw [T];exact ⟨a1,by rw [o];exact s2,by omega,by omega⟩
end
end Go.Proofs.YtofpegbpgkkgkaaGreatDoor
