import Derived.Test.YtofpegbpgkkgkaaGreatDoorS25
namespace Go.Proofs.YtofpegbpgkkgkaaGreatDoor
set_option maxHeartbeats 8000000
set_option maxRecDepth 1000000
open Go.RowKit
def iC (addr:Int) (x:Int×Int):Bool:=decide (addr / 2 ^ (32 - x.2).toNat=x.1 / 2 ^ (32 - x.2).toNat)
theorem zm (c:bT) (O P Q R:Value) (a:Int) (w:World) (h:jD w c O P Q R) (hn:c.nets.length≤5) (K:∀x∈c.nets,0≤x.2∧x.2≤32):
  Calls Tryz.prog 61 #[.agg #[.string c.host,O,P,Q,.int .i64 c.most,.int .i64 c.size,R,.int .i64 c.life,.int .i64 c.room],.int .i64 a] w fun e B=>e= .returned (.bool (c.nets.any (iC a)))∧Below w.heap.size w B:=by
 obtain ⟨U,Y,eD⟩:=aE h.1;obtain ⟨W,cU,eU⟩:=aE h.2.2.1;obtain ⟨X,cW,eW⟩:=aE h.2.2.2;obtain ⟨V,Z,eN,J⟩:=h.2.1.shape;subst eD eN eU eW;obtain ⟨y,m⟩:∃y:World,w.alloc (.cells #[.string c.host,.slice U c.doms.length Y,.slice V c.nets.length Z,.slice W c.users.length cU,.int .i64 c.most,.int .i64 c.size,.slice X c.waits.length cW,.int .i64 c.life,.int .i64 c.room] 30)=y:=⟨_,rfl⟩;have C:Below w.heap.size w y:=by rw [←m];exact (Below.refl _ _).alloc (Nat.le_refl _) _
 have F:=Lib.hid J;have S:=Lib.hid K;have s:=Lib.hid C;have v:=Lib.hid m;clear h J K C m;go_enter Tryz.func61,Tryz.ntmps61;go_wp2_with fail
 rw [v.out];go_loopw [6,7,11] (fun _ _ i B=>∃k:Nat,k≤c.nets.length∧i= .int .i64 k∧Hid ((c.nets.take k).any (iC a)=false)∧Hid (Below w.heap.size w B)) (fun _ _ i _=>c.nets.length - (intOf i).toNat)
 case atStart=>exact ⟨0,Nat.zero_le _,rfl,Lib.hid rfl,s⟩
 case round=>
  obtain ⟨k,hk,rfl,t,o⟩:=hrel
  by_cases g:k < c.nets.length
  ·have L:(k:Int) < (c.nets.length:Int):=by omega
   obtain ⟨b,r,rfl,p,f⟩:=F.out k 0 g (by omega);obtain ⟨b',N,z,_,d⟩:=F.out k 1 g (by omega);injection z with z;injection z with e1 e2 _;subst e1 e2;rw [Nat.add_zero,FQ c.nets k g] at f;rw [CS c.nets k g] at d;have q:=S.out c.nets[k] (List.getElem_mem g);have G:Hid ((c.nets.take (k+1)).any (iC a)=iC a c.nets[k]):=Lib.hid (by rw [List.take_succ_eq_append_getElem g,List.any_append,t.out];simp);have E:Hid (iC a c.nets[k]=true→c.nets.any (iC a)=true):=Lib.hid (fun e=>List.any_eq_true.2 ⟨_,List.getElem_mem g,e⟩);obtain ⟨x,H⟩:∃x,c.nets[k]=x:=⟨_,rfl⟩;rw [H] at f d q G E;obtain ⟨n,l⟩:=x;simp only at f d q;have d0:wr.cell? ⟨b,r+k * 2,none⟩=some (.int .i64 n):=(o.out.cell (by exact p)).trans f;have d1:wr.cell? ⟨b,r+k * 2+1,none⟩=some (.int .i64 l):=(o.out.cell (by exact p)).trans d;have a1:IntKind.i64.wrap (32 - l)=32 - l:=by rw [IntKind.wrap_i64];omega
   have a0:¬(32 - l < 0):=by omega
   have M:(0:Int)≤32 - l:=by omega
   clear H f d;go_wp2_with fail
   go_quiet (fail)
   have D:=Lib.hid ((o.out.alloc o.out.size (.cells #[.int .i64 n,.int .i64 l] 77)).trans (bw nq _ _))
   by_cases j:a / 2 ^ (32 - l).toNat=n / 2 ^ (32 - l).toNat
   ·have hb:(a / 2 ^ (32 - l).toNat == n / 2 ^ (32 - l).toNat)=true:=by rw [beq_iff_eq];exact j
    have T:=Lib.hid (E.out (by unfold iC;simpa using j));clear j;go_wp2_with fail
    go_ret;exact ⟨by rw [T.out];rfl,D.out⟩
   ·have hb:(a / 2 ^ (32 - l).toNat == n / 2 ^ (32 - l).toNat)=false:=by rw [beq_eq_false_iff_ne];exact j
    have I:=G.out.trans (show iC a (n,l)=false by unfold iC;simpa using j);have u:=Lib.hid I;clear j I;go_wp2_with fail
    exact ⟨⟨k+1,by omega,by go_num,u,D⟩,by simp [intOf];omega⟩
  ·have A:k=c.nets.length:=by omega
   subst A;rw [List.take_length] at t;go_wp2_with fail
   go_ret;exact ⟨by rw [t.out];rfl,o.out⟩
theorem tM (a g k:Nat) (q:Nat→Nat) (u i:Value) (S:aa) (b:Nat) (c:List Nat) (w:World) (h:bf a w g k q u S) (s:S.Ok) (G:aZ w i c.length 1 (aX c)) (E:b≤4294967295) (T:1≤c.length) (t:c.length≤255) (U:S.items.length≤4294967295) (F:bu S b c=true):
  Calls Tryz.prog 117 #[.pointer (some ⟨g,0,none⟩),.agg #[.int .i64 b,i]] w fun e H=>e= .returned (.bool true)∧bf a H g k q u (S.outs (b - 1) c)∧dT g k q q S (S.outs (b - 1) c) w H∧kD w H q (S.outs (b - 1) c).live:=by
 obtain ⟨j,f⟩:∃j:World,w.alloc (.cells #[.int .i64 b,i] 193)=j:=⟨_,rfl⟩;have l:Below w.heap.size w j:=by rw [←f];exact (Below.refl _ _).alloc (Nat.le_refl _) _
 have v:bf a j g k q u S:=h.keep l;have Q:j.heap[w.heap.size]? =some (.cells #[.int .i64 b,i] 193 (0,0)):=by rw [←f];exact heap_alloc_new w _
 have O:=Lib.hid (jK a g k q u i S b c j v s (G.below l) E T t U);rw [F] at O;have V:=Lib.hid h;have x:=Lib.hid v;have m:=Lib.hid l;have B:=Lib.hid f;have C:=Lib.hid Q;have A:=Lib.hid (G.below l);rw [dv T,Bool.and_eq_true,decide_eq_true_eq] at F;obtain ⟨⟨D,p⟩,_⟩:=F;have n:=Lib.hid p;have r:((b - 1:Nat):Int)+1=(b:Int):=by omega
 have z:=Lib.hid r;clear v l f Q G h D p r;go_enter Tryz.func117,Tryz.ntmps117;go_wp2_with fail
 rw [B.out];refine O.out.mono ?_;rintro e I ⟨rfl,d⟩;have J:=ae d C.out;have Y:I.cell? ⟨w.heap.size,0,none⟩=some (.int .i64 b):=by rw [Lib.cell_of_heap J];rfl
 have Z:I.cell? ⟨w.heap.size,1,none⟩=some i:=by rw [Lib.cell_of_heap J];rfl
 have K:=Lib.hid (x.out.keep d);have M:=Lib.hid (m.out.trans (d.mono m.out.size));have N:=Lib.hid (lV a g k q u i S (b - 1) c I K.out s (A.out.below d) n.out t U);rw [z.out] at N;clear J d;go_wp2_with fail
 refine N.out.mono ?_;rintro e X ⟨W,rfl,_,L,P,R⟩;have o:=Lib.hid (sX K.out n.out P R (ps:=c));have y:=Lib.hid L;clear L P R;go_wp2_with fail
 go_ret;exact ⟨rfl,y.out,dT.after V.out M.out o.out.1,kD.after M.out o.out.2⟩
open Go.Conc Go.RowKit
def gf (l:List (Nat×List UInt8)) (b:Bool):List Value:=l.map fun x=>cR (x.1,b)
theorem y9 (B c b L:Nat) (a:Option Addr) (l:List (Nat×List UInt8)) (C:World) (cs:List Frame) (R:World→Prop) (hl:l.length≤1000)
  (y:∀k (hk:k < l.length),∃g d,a=some ⟨g,d,none⟩∧g≠c∧C.cell? ⟨g,d+k * 2,none⟩=some (.int .i64 (l[k].1:Int))∧C.cell? ⟨g,d+k * 2+1,none⟩=some (.string (bs l[k].2)))
  (Z:B≠c) (f:C.cell? ⟨B,9,none⟩=some (.chan (some c))):
  ∀(m k:Nat) (w:World) (s r:Nat) (h:List Value) (u2 u3 u4 u5 u9 u10 u11 u12 u13 u14 u15 u16 u17 u18 u19:Value),k+m=l.length→aF (fun j=>j=c) C w→w.heap[c]? =some (.chan b h.toArray false s r false)→h.length+m≤b→
   (∀u O N,aF (fun j=>j=c) C u→u.heap[c]? =some (.chan b (h++gf (l.drop k) false).toArray false O N false)→R u)→
   LoneTo Tryz.prog (fun g' u=>∃e X,g'=G X cs∧(e= .returned (.tuple #[])∧R u)∧X.fn=129∧X.leaving Tryz.prog u e)
    (G ((base 129).at ⟨#[.pointer (some ⟨B,0,none⟩),.slice a l.length L,u2,u3,u4,u5,.slice a l.length L,.int .i64 l.length,.int .i64 k,u9,u10,u11,u12,u13,u14,u15,u16,u17,u18,u19],[]⟩ [.code (aM Tryz.f129.body),.inLoop (aM Tryz.f129.body),.inBlock 0]) cs) w:=by
 intro m
 induction m with
 | zero=>
  intro k w s r h u2 u3 u4 u5 u9 u10 u11 u12 u13 u14 u15 u16 u17 u18 u19 hk q p _ M;have H:=M w s r q (by rw [List.drop_eq_nil_of_le (by omega)];simpa [gf] using p);have A:¬(k:Int) < (l.length:Int):=by omega
  obtain ⟨n,D⟩:∃n,l.length=n:=⟨_,rfl⟩;rw [D] at A ⊢;clear M y p q;refine LoneTo.goes (n:=30) ?_;simp only [aM,Tryz.f129]
  s_c stepG_seq
  s_reg
  s_op
  s_c stepG_region_end
  s_c stepG_seq
  s_cond false
  s_exit
  s_c stepG_end
  s_stop
  exact LoneTo.done ⟨.returned (.tuple #[]),_,rfl,⟨rfl,H⟩,rfl,rfl,rfl,rfl,_,Tryz.func129,by simp [results,Tryz.f129,Frame.at]⟩
 | succ m ih=>
  intro k w s r h u2 u3 u4 u5 u9 u10 u11 u12 u13 u14 u15 u16 u17 u18 u19 hk q p Y M;have J:k < l.length:=by omega
  obtain ⟨g,d,rfl,hg,T,U⟩:=y k J;have A:(k:Int) < (l.length:Int):=by omega
  have V:w.cell? ⟨g,d+k * 2,none⟩=some (.int .i64 (l[k].1:Int)):=(World.cell?_of_block (q.block g (aA T) hg)).trans T;have W:w.cell? ⟨g,d+k * 2+1,none⟩=some (.string (bs l[k].2)):=(World.cell?_of_block (q.block g (aA U) hg)).trans U;have F:l.drop k=l[k]::l.drop (k+1):=List.drop_eq_getElem_cons J;obtain ⟨x,ex⟩:∃x,l[k]=x:=⟨_,rfl⟩;rw [ex] at V W F;obtain ⟨P,nm⟩:=x;simp only at V W;obtain ⟨n,D⟩:∃n,l.length=n:=⟨_,rfl⟩;have eS:(Value.slice (some ⟨g,d,none⟩) l.length L)= .slice (some ⟨g,d,none⟩) n L:=by rw [D]
  rw [D] at A;have t:=ih (k+1);simp only [aM,Tryz.f129] at t ⊢;rw [D] at t ⊢;refine LoneTo.goes (n:=60) ?_
  s_c stepG_seq
  s_reg
  s_op
  s_c stepG_region_end
  s_c stepG_seq
  s_cond true
  s_c stepG_skip
  s_c stepG_seq
  s_c stepG_block
  s_c stepG_seq
  s_reg
  s_op
  s_op
  s_op
  s_op
  s_c stepG_region_end
  s_stop
  have S:=heap_alloc_new w (.cells #[.int .i64 (P:Int),.string (bs nm)] 162);obtain ⟨i,z⟩:∃i:World,w.alloc (.cells #[.int .i64 (P:Int),.string (bs nm)] 162)=i:=⟨_,rfl⟩;have K:Below w.heap.size w i:=by rw [←z];exact (Below.refl _ _).alloc (Nat.le_refl _) _
  rw [z] at S ⊢;have p1:i.cell? ⟨w.heap.size,0,none⟩=some (.int .i64 (P:Int)):=by rw [Lib.cell_of_heap S];rfl
  have t1:i.cell? ⟨B,9,none⟩=some (.chan (some c)):=(K.cell (Nat.lt_of_lt_of_le (aA f) q.size)).trans ((World.cell?_of_block (q.block B (aA f) Z)).trans f);have q1:=ae K p;have v:c < i.drew.heap.size:=ah q1
  have K1:aF (fun j=>j=c) C (i.drew.setChan c b (h.toArray.push (cR (P,false))) false (s+1) r false):=by
   refine (q.trans (aF.below (K.drew):aF (fun j=>j=c) w i.drew) (fun _ _ e=>e)).trans ?_ (fun _ _ e=>e);exact ⟨by simp [World.setChan],fun j hj hn=>by simp [World.setChan,Array.getElem?_setIfInBounds_ne (Ne.symm hn)],⟨rfl,rfl,rfl⟩⟩
  have q2:=heap_setChan i.drew c b (h.toArray.push (cR (P,false))) false (s+1) r false v;refine ze _ _ _ B c w.heap.size b s r _ h.toArray (P:Int) i t1 p1 q1 (by rw [List.size_toArray];omega) _ _ _ _ _ _ _ _ _ _ _ _ _ _ _ _ _ _ ?_;have o:h.toArray.push (cR (P,false))=(h++[cR (P,false)]).toArray:=by simp
  have a0:IntKind.i64.wrap ((k:Int)+1)=(k:Int)+1:=by rw [IntKind.wrap_i64];omega
  change LoneTo _ _ _ (i.drew.setChan c b (h.toArray.push (cR (P,false))) false (s+1) r false);obtain ⟨Q,E⟩:∃Q:World,i.drew.setChan c b (h.toArray.push (cR (P,false))) false (s+1) r false=Q:=⟨_,rfl⟩;rw [E] at K1 q2 ⊢;rw [o] at q2;have I:=t Q (s+1) r (h++[cR (P,false)]);clear E z S K p1 t1 q1 v ih t p q V W T U o;refine LoneTo.goes (n:=20) ?_
  s_c stepG_inBlock
  s_reg
  s_op
  s_op
  s_c stepG_region_end
  s_c stepG_inLoop
  s_stop
  rw [show (k:Int)+1=((k+1:Nat):Int) from rfl]
  exact I _ _ _ _ _ _ _ _ _ _ _ _ _ _ _ (by omega) K1 q2 (by rw [List.length_append];simp only [List.length_cons,List.length_nil];omega) (fun u O N h1 h2=>M u O N h1 (by
   rw [F];show u.heap[c]? =some (.chan b (h++(cR (P,false)::gf (l.drop (k+1)) false)).toArray false O N false);rw [h2,List.append_assoc]
   rfl))
theorem A8 (o g c:Nat) (v:Value) (l:List (Nat×List UInt8)) (w:World) (s r:Nat) (q:List Value) (K:l.length≤1000) (h:aZ w v l.length 2 (aL l)) (J:v.ownBlock≠some g) (D:o≠g) (d:w.cell? ⟨o,9,none⟩=some (.chan (some g))) (t:w.heap[g]? =some (.chan c q.toArray false s r false)) (i:q.length+l.length≤c):
  Calls Tryz.prog 129 #[.pointer (some ⟨o,0,none⟩),v] w fun e p=>e= .returned (.tuple #[])∧aF (fun j=>j=g) w p∧∃y x,p.heap[g]? =some (.chan c (q++gf l false).toArray false y x false):=by
 obtain ⟨a,A,rfl,C⟩:=h.shape;refine calls_of_loneTo fun F=>?_
 have e:Frame.enter Tryz.prog 129 #[.pointer (some ⟨o,0,none⟩),.slice a l.length A] .normal=(base 129).at ⟨#[.pointer (some ⟨o,0,none⟩),.slice a l.length A,undef,undef,undef,undef,undef,undef,undef,undef,undef,undef,undef,undef,undef,undef,undef,undef,undef,undef],[]⟩ [.code (Tryz.f129.body.getD .skip)]:=by
  simp [Frame.enter,Frame.at,Tryz.func129,base,Tryz.f129]
 rw [e]
 have u:=fun u2 u3 u4 u5 u9 u10 u11 u12 u13 u14 u15 u16 u17 u18 u19=>y9 o g c A a l w F (fun p=>aF (fun j=>j=g) w p∧∃y x,p.heap[g]? =some (.chan c (q++gf l false).toArray false y x false)) K (fun k z=>by
  obtain ⟨b,f,B,_,L⟩:=C k 0 z (by decide);obtain ⟨N,E,m,_,M⟩:=C k 1 z (by decide);rw [B] at m;injection m with m;injection m with m e3;subst m e3;refine ⟨b,f,B,fun G=>J (by rw [B,G];rfl),?_,?_⟩
  ·rw [show f+k * 2=f+(k * 2+0) by omega,L];exact (dF l k z).1
  ·rw [show f+k * 2+1=f+(k * 2+1) by omega,M];exact (dF l k z).2) D d l.length 0 w s r q u2 u3 u4 u5 u9 u10 u11 u12 u13 u14 u15 u16 u17 u18 u19 (by omega) (aF.refl _ _) t i (fun p y x H I=>⟨H,y,x,I⟩)
 clear t d C h e;simp only [aM,Tryz.f129] at u;refine LoneTo.goes (n:=20) ?_;simp only [Tryz.f129,Option.getD_some]
 s_c stepG_seq
 s_reg
 s_op
 s_op
 s_op
 s_c stepG_region_end
 s_c stepG_block
 s_c stepG_loop
 s_stop
 exact u _ _ _ _ _ _ _ _ _ _ _ _ _ _ _
theorem Dw (B c b L:Nat) (a:Option Addr) (l:List (Nat×List UInt8)) (C:World) (cs:List Frame) (R:World→Prop) (hl:l.length≤1000)
  (y:∀k (hk:k < l.length),∃g d,a=some ⟨g,d,none⟩∧g≠c∧C.cell? ⟨g,d+k * 2,none⟩=some (.int .i64 (l[k].1:Int))∧C.cell? ⟨g,d+k * 2+1,none⟩=some (.string (bs l[k].2)))
  (Z:B≠c) (f:C.cell? ⟨B,9,none⟩=some (.chan (some c))):
  ∀(m k:Nat) (w:World) (s r:Nat) (h:List Value) (u2 u3 u4 u5 u9 u10 u11 u12 u13 u14 u15 u16 u17 u18 u19:Value),k+m=l.length→aF (fun j=>j=c) C w→w.heap[c]? =some (.chan b h.toArray false s r false)→h.length+m≤b→
   (∀u O N,aF (fun j=>j=c) C u→u.heap[c]? =some (.chan b (h++gf (l.drop k) true).toArray false O N false)→R u)→
   LoneTo Tryz.prog (fun g' u=>∃e X,g'=G X cs∧(e= .returned (.tuple #[])∧R u)∧X.fn=131∧X.leaving Tryz.prog u e)
    (G ((base 131).at ⟨#[.pointer (some ⟨B,0,none⟩),.slice a l.length L,u2,u3,u4,u5,.slice a l.length L,.int .i64 l.length,.int .i64 k,u9,u10,u11,u12,u13,u14,u15,u16,u17,u18,u19],[]⟩ [.code (aM Tryz.f131.body),.inLoop (aM Tryz.f131.body),.inBlock 0]) cs) w:=by
 intro m
 induction m with
 | zero=>
  intro k w s r h u2 u3 u4 u5 u9 u10 u11 u12 u13 u14 u15 u16 u17 u18 u19 hk q p _ M;have H:=M w s r q (by rw [List.drop_eq_nil_of_le (by omega)];simpa [gf] using p);have A:¬(k:Int) < (l.length:Int):=by omega
  obtain ⟨n,D⟩:∃n,l.length=n:=⟨_,rfl⟩;rw [D] at A ⊢;clear M y p q;refine LoneTo.goes (n:=30) ?_;simp only [aM,Tryz.f131]
  s_c stepG_seq
  s_reg
  s_op
  s_c stepG_region_end
  s_c stepG_seq
  s_cond false
  s_exit
  s_c stepG_end
  s_stop
  exact LoneTo.done ⟨.returned (.tuple #[]),_,rfl,⟨rfl,H⟩,rfl,rfl,rfl,rfl,_,Tryz.func131,by simp [results,Tryz.f131,Frame.at]⟩
 | succ m ih=>
  intro k w s r h u2 u3 u4 u5 u9 u10 u11 u12 u13 u14 u15 u16 u17 u18 u19 hk q p Y M;have J:k < l.length:=by omega
  obtain ⟨g,d,rfl,hg,T,U⟩:=y k J;have A:(k:Int) < (l.length:Int):=by omega
  have V:w.cell? ⟨g,d+k * 2,none⟩=some (.int .i64 (l[k].1:Int)):=(World.cell?_of_block (q.block g (aA T) hg)).trans T;have W:w.cell? ⟨g,d+k * 2+1,none⟩=some (.string (bs l[k].2)):=(World.cell?_of_block (q.block g (aA U) hg)).trans U;have F:l.drop k=l[k]::l.drop (k+1):=List.drop_eq_getElem_cons J;obtain ⟨x,ex⟩:∃x,l[k]=x:=⟨_,rfl⟩;rw [ex] at V W F;obtain ⟨P,nm⟩:=x;simp only at V W;obtain ⟨n,D⟩:∃n,l.length=n:=⟨_,rfl⟩;have eS:(Value.slice (some ⟨g,d,none⟩) l.length L)= .slice (some ⟨g,d,none⟩) n L:=by rw [D]
  rw [D] at A;have t:=ih (k+1);simp only [aM,Tryz.f131] at t ⊢;rw [D] at t ⊢;refine LoneTo.goes (n:=60) ?_
  s_c stepG_seq
  s_reg
  s_op
  s_c stepG_region_end
  s_c stepG_seq
  s_cond true
  s_c stepG_skip
  s_c stepG_seq
  s_c stepG_block
  s_c stepG_seq
  s_reg
  s_op
  s_op
  s_op
  s_op
  s_c stepG_region_end
  s_stop
  have S:=heap_alloc_new w (.cells #[.int .i64 (P:Int),.string (bs nm)] 162);obtain ⟨i,z⟩:∃i:World,w.alloc (.cells #[.int .i64 (P:Int),.string (bs nm)] 162)=i:=⟨_,rfl⟩;have K:Below w.heap.size w i:=by rw [←z];exact (Below.refl _ _).alloc (Nat.le_refl _) _
  rw [z] at S ⊢;have p1:i.cell? ⟨w.heap.size,0,none⟩=some (.int .i64 (P:Int)):=by rw [Lib.cell_of_heap S];rfl
  have t1:i.cell? ⟨B,9,none⟩=some (.chan (some c)):=(K.cell (Nat.lt_of_lt_of_le (aA f) q.size)).trans ((World.cell?_of_block (q.block B (aA f) Z)).trans f);have q1:=ae K p;have v:c < i.drew.heap.size:=ah q1
  have K1:aF (fun j=>j=c) C (i.drew.setChan c b (h.toArray.push (cR (P,true))) false (s+1) r false):=by
   refine (q.trans (aF.below (K.drew):aF (fun j=>j=c) w i.drew) (fun _ _ e=>e)).trans ?_ (fun _ _ e=>e);exact ⟨by simp [World.setChan],fun j hj hn=>by simp [World.setChan,Array.getElem?_setIfInBounds_ne (Ne.symm hn)],⟨rfl,rfl,rfl⟩⟩
  have q2:=heap_setChan i.drew c b (h.toArray.push (cR (P,true))) false (s+1) r false v;refine Dx _ _ _ B c w.heap.size b s r _ h.toArray (P:Int) i t1 p1 q1 (by rw [List.size_toArray];omega) _ _ _ _ _ _ _ _ _ _ _ _ _ _ _ _ _ _ ?_;have o:h.toArray.push (cR (P,true))=(h++[cR (P,true)]).toArray:=by simp
  have a0:IntKind.i64.wrap ((k:Int)+1)=(k:Int)+1:=by rw [IntKind.wrap_i64];omega
  change LoneTo _ _ _ (i.drew.setChan c b (h.toArray.push (cR (P,true))) false (s+1) r false);obtain ⟨Q,E⟩:∃Q:World,i.drew.setChan c b (h.toArray.push (cR (P,true))) false (s+1) r false=Q:=⟨_,rfl⟩;rw [E] at K1 q2 ⊢;rw [o] at q2;have I:=t Q (s+1) r (h++[cR (P,true)]);clear E z S K p1 t1 q1 v ih t p q V W T U o;refine LoneTo.goes (n:=20) ?_
  s_c stepG_inBlock
  s_reg
  s_op
  s_op
  s_c stepG_region_end
  s_c stepG_inLoop
  s_stop
  rw [show (k:Int)+1=((k+1:Nat):Int) from rfl]
  exact I _ _ _ _ _ _ _ _ _ _ _ _ _ _ _ (by omega) K1 q2 (by rw [List.length_append];simp only [List.length_cons,List.length_nil];omega) (fun u O N h1 h2=>M u O N h1 (by
   rw [F];show u.heap[c]? =some (.chan b (h++(cR (P,true)::gf (l.drop (k+1)) true)).toArray false O N false);rw [h2,List.append_assoc]
   rfl))
theorem Fo (o g c:Nat) (v:Value) (l:List (Nat×List UInt8)) (w:World) (s r:Nat) (q:List Value) (K:l.length≤1000) (h:aZ w v l.length 2 (aL l)) (J:v.ownBlock≠some g) (D:o≠g) (d:w.cell? ⟨o,9,none⟩=some (.chan (some g))) (t:w.heap[g]? =some (.chan c q.toArray false s r false)) (i:q.length+l.length≤c):
  Calls Tryz.prog 131 #[.pointer (some ⟨o,0,none⟩),v] w fun e p=>e= .returned (.tuple #[])∧aF (fun j=>j=g) w p∧∃y x,p.heap[g]? =some (.chan c (q++gf l true).toArray false y x false):=by
 obtain ⟨a,A,rfl,C⟩:=h.shape;refine calls_of_loneTo fun F=>?_
 have e:Frame.enter Tryz.prog 131 #[.pointer (some ⟨o,0,none⟩),.slice a l.length A] .normal=(base 131).at ⟨#[.pointer (some ⟨o,0,none⟩),.slice a l.length A,undef,undef,undef,undef,undef,undef,undef,undef,undef,undef,undef,undef,undef,undef,undef,undef,undef,undef],[]⟩ [.code (Tryz.f131.body.getD .skip)]:=by
  simp [Frame.enter,Frame.at,Tryz.func131,base,Tryz.f131]
 rw [e]
 have u:=fun u2 u3 u4 u5 u9 u10 u11 u12 u13 u14 u15 u16 u17 u18 u19=>Dw o g c A a l w F (fun p=>aF (fun j=>j=g) w p∧∃y x,p.heap[g]? =some (.chan c (q++gf l true).toArray false y x false)) K (fun k z=>by
  obtain ⟨b,f,B,_,L⟩:=C k 0 z (by decide);obtain ⟨N,E,m,_,M⟩:=C k 1 z (by decide);rw [B] at m;injection m with m;injection m with m e3;subst m e3;refine ⟨b,f,B,fun G=>J (by rw [B,G];rfl),?_,?_⟩
  ·rw [show f+k * 2=f+(k * 2+0) by omega,L];exact (dF l k z).1
  ·rw [show f+k * 2+1=f+(k * 2+1) by omega,M];exact (dF l k z).2) D d l.length 0 w s r q u2 u3 u4 u5 u9 u10 u11 u12 u13 u14 u15 u16 u17 u18 u19 (by omega) (aF.refl _ _) t i (fun p y x H I=>⟨H,y,x,I⟩)
 clear t d C h e;simp only [aM,Tryz.f131] at u;refine LoneTo.goes (n:=20) ?_;simp only [Tryz.f131,Option.getD_some]
 s_c stepG_seq
 s_reg
 s_op
 s_op
 s_op
 s_c stepG_region_end
 s_c stepG_block
 s_c stepG_loop
 s_stop
 exact u _ _ _ _ _ _ _ _ _ _ _ _ _ _ _
end Go.Proofs.YtofpegbpgkkgkaaGreatDoor
