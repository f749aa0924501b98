import Derived.Test.YtofpegbpgkkgkaaGreatDoorS18
import Derived.Test.YtofpegbpgkkgkaaGreatDoorS28
namespace Go.Proofs.YtofpegbpgkkgkaaGreatDoor
set_option maxHeartbeats 8000000
set_option maxRecDepth 1000000
open Go.RowKit
open Go.Conc Go.RowKit
def gx (l:List (Nat×List UInt8)) (b:Bool):List Value:=l.map fun x=>df (x.1,b)
theorem AB (B c b L:Nat) (a:Option Addr) (l:List (Nat×List UInt8)) (C:World) (cs:List Frame) (R:World→Prop) (hl:l.length≤1000)
  (y:∀k (hk:k < l.length),∃g d,a=some ⟨g,d,none⟩∧g≠c∧C.cell? ⟨g,d+k * 2,none⟩=some (.int .i64 (l[k].1:Int))∧C.cell? ⟨g,d+k * 2+1,none⟩=some (.string (bs l[k].2)))
  (Z:B≠c) (f:C.cell? ⟨B,9,none⟩=some (.chan (some c))):
  ∀(m k:Nat) (w:World) (s r:Nat) (h:List Value) (u2 u3 u4 u5 u9 u10 u11 u12 u13 u14 u15 u16 u17 u18 u19:Value),k+m=l.length→aH (fun j=>j=c) C w→w.heap[c]? =some (.chan b h.toArray false s r false)→h.length+m≤b→
   (∀u O N,aH (fun j=>j=c) C u→u.heap[c]? =some (.chan b (h++gx (l.drop k) false).toArray false O N false)→R u)→
   LoneTo Tryz.prog (fun g' u=>∃e X,g'=G X cs∧(e= .returned (.tuple #[])∧R u)∧X.fn=129∧X.leaving Tryz.prog u e)
    (G ((base 129).at ⟨#[.pointer (some ⟨B,0,none⟩),.slice a l.length L,u2,u3,u4,u5,.slice a l.length L,.int .i64 l.length,.int .i64 k,u9,u10,u11,u12,u13,u14,u15,u16,u17,u18,u19],[]⟩ [.code (aV Tryz.f129.body),.inLoop (aV Tryz.f129.body),.inBlock 0]) cs) w:=by
 intro m
 induction m with
 | zero=>
  intro k w s r h u2 u3 u4 u5 u9 u10 u11 u12 u13 u14 u15 u16 u17 u18 u19 hk q p _ M;have H:=M w s r q (by rw [List.drop_eq_nil_of_le (by omega)];simpa [gx] using p);have A:¬(k:Int) < (l.length:Int):=by omega
  obtain ⟨n,D⟩:∃n,l.length=n:=⟨_,rfl⟩;rw [D] at A ⊢;clear M y p q;refine LoneTo.goes (n:=30) ?_;simp only [aV,Tryz.f129]
  s_c stepG_seq
  s_reg
  s_op
  s_c stepG_region_end
  s_c stepG_seq
  s_cond false
  s_exit
  s_c stepG_end
  s_stop
  exact LoneTo.done ⟨.returned (.tuple #[]),_,rfl,⟨rfl,H⟩,rfl,rfl,rfl,rfl,_,Tryz.func129,by simp [results,Tryz.f129,Frame.at]⟩
 | succ m ih=>
  intro k w s r h u2 u3 u4 u5 u9 u10 u11 u12 u13 u14 u15 u16 u17 u18 u19 hk q p Y M;have J:k < l.length:=by omega
  obtain ⟨g,d,rfl,hg,T,U⟩:=y k J;have A:(k:Int) < (l.length:Int):=by omega
  have V:w.cell? ⟨g,d+k * 2,none⟩=some (.int .i64 (l[k].1:Int)):=(World.cell?_of_block (q.block g (eI T) hg)).trans T;have W:w.cell? ⟨g,d+k * 2+1,none⟩=some (.string (bs l[k].2)):=(World.cell?_of_block (q.block g (eI U) hg)).trans U;have F:l.drop k=l[k]::l.drop (k+1):=List.drop_eq_getElem_cons J;obtain ⟨x,ex⟩:∃x,l[k]=x:=⟨_,rfl⟩;rw [ex] at V W F;obtain ⟨P,nm⟩:=x;simp only at V W;obtain ⟨n,D⟩:∃n,l.length=n:=⟨_,rfl⟩;have eS:(Value.slice (some ⟨g,d,none⟩) l.length L)= .slice (some ⟨g,d,none⟩) n L:=by rw [D]
  rw [D] at A;have t:=ih (k+1);simp only [aV,Tryz.f129] at t ⊢;rw [D] at t ⊢;refine LoneTo.goes (n:=60) ?_
  s_c stepG_seq
  s_reg
  s_op
  s_c stepG_region_end
  s_c stepG_seq
  s_cond true
  s_c stepG_skip
  s_c stepG_seq
  s_c stepG_block
  s_c stepG_seq
  s_reg
  s_op
  s_op
  s_op
  s_op
  s_c stepG_region_end
  s_stop
  have S:=heap_alloc_new w (.cells #[.int .i64 (P:Int),.string (bs nm)] 162);obtain ⟨i,z⟩:∃i:World,w.alloc (.cells #[.int .i64 (P:Int),.string (bs nm)] 162)=i:=⟨_,rfl⟩;have K:Below w.heap.size w i:=by rw [←z];exact (Below.refl _ _).alloc (Nat.le_refl _) _
  rw [z] at S ⊢;have p1:i.cell? ⟨w.heap.size,0,none⟩=some (.int .i64 (P:Int)):=by rw [Lib.cell_of_heap S];rfl
  have t1:i.cell? ⟨B,9,none⟩=some (.chan (some c)):=(K.cell (Nat.lt_of_lt_of_le (eI f) q.size)).trans ((World.cell?_of_block (q.block B (eI f) Z)).trans f);have q1:=ae K p;have v:c < i.drew.heap.size:=ah q1
  have K1:aH (fun j=>j=c) C (i.drew.setChan c b (h.toArray.push (df (P,false))) false (s+1) r false):=by
   refine (q.trans (aH.below (K.drew):aH (fun j=>j=c) w i.drew) (fun _ _ e=>e)).trans ?_ (fun _ _ e=>e);exact ⟨by simp [World.setChan],fun j hj hn=>by simp [World.setChan,Array.getElem?_setIfInBounds_ne (Ne.symm hn)],⟨rfl,rfl,rfl⟩⟩
  have q2:=heap_setChan i.drew c b (h.toArray.push (df (P,false))) false (s+1) r false v;refine AD _ _ _ B c w.heap.size b s r _ h.toArray (P:Int) i t1 p1 q1 (by rw [List.size_toArray];omega) _ _ _ _ _ _ _ _ _ _ _ _ _ _ _ _ _ _ ?_;have o:h.toArray.push (df (P,false))=(h++[df (P,false)]).toArray:=by simp
  have a0:IntKind.i64.wrap ((k:Int)+1)=(k:Int)+1:=by rw [IntKind.wrap_i64];omega
  change LoneTo _ _ _ (i.drew.setChan c b (h.toArray.push (df (P,false))) false (s+1) r false);obtain ⟨Q,E⟩:∃Q:World,i.drew.setChan c b (h.toArray.push (df (P,false))) false (s+1) r false=Q:=⟨_,rfl⟩;rw [E] at K1 q2 ⊢;rw [o] at q2;have I:=t Q (s+1) r (h++[df (P,false)]);clear E z S K p1 t1 q1 v ih t p q V W T U o;refine LoneTo.goes (n:=20) ?_
  s_c stepG_inBlock
  s_reg
  s_op
  s_op
  s_c stepG_region_end
  s_c stepG_inLoop
  s_stop
  rw [show (k:Int)+1=((k+1:Nat):Int) from rfl]
  exact I _ _ _ _ _ _ _ _ _ _ _ _ _ _ _ (by omega) K1 q2 (by rw [List.length_append];simp only [List.length_cons,List.length_nil];omega) (fun u O N h1 h2=>M u O N h1 (by
   rw [F];show u.heap[c]? =some (.chan b (h++(df (P,false)::gx (l.drop (k+1)) false)).toArray false O N false);rw [h2,List.append_assoc]
   rfl))
theorem CD (o g c:Nat) (v:Value) (l:List (Nat×List UInt8)) (w:World) (s r:Nat) (q:List Value) (K:l.length≤1000) (h:bg w v l.length 2 (aR l)) (J:v.ownBlock≠some g) (D:o≠g) (d:w.cell? ⟨o,9,none⟩=some (.chan (some g))) (t:w.heap[g]? =some (.chan c q.toArray false s r false)) (i:q.length+l.length≤c):
  Calls Tryz.prog 129 #[.pointer (some ⟨o,0,none⟩),v] w fun e p=>e= .returned (.tuple #[])∧aH (fun j=>j=g) w p∧∃y x,p.heap[g]? =some (.chan c (q++gx l false).toArray false y x false):=by
 obtain ⟨a,A,rfl,C⟩:=h.shape;refine calls_of_loneTo fun F=>?_
 have e:Frame.enter Tryz.prog 129 #[.pointer (some ⟨o,0,none⟩),.slice a l.length A] .normal=(base 129).at ⟨#[.pointer (some ⟨o,0,none⟩),.slice a l.length A,undef,undef,undef,undef,undef,undef,undef,undef,undef,undef,undef,undef,undef,undef,undef,undef,undef,undef],[]⟩ [.code (Tryz.f129.body.getD .skip)]:=by
  simp [Frame.enter,Frame.at,Tryz.func129,base,Tryz.f129]
 rw [e]
 have u:=fun u2 u3 u4 u5 u9 u10 u11 u12 u13 u14 u15 u16 u17 u18 u19=>AB o g c A a l w F (fun p=>aH (fun j=>j=g) w p∧∃y x,p.heap[g]? =some (.chan c (q++gx l false).toArray false y x false)) K (fun k z=>by
  obtain ⟨b,f,B,_,L⟩:=C k 0 z (by decide);obtain ⟨N,E,m,_,M⟩:=C k 1 z (by decide);rw [B] at m;injection m with m;injection m with m e3;subst m e3;refine ⟨b,f,B,fun G=>J (by rw [B,G];rfl),?_,?_⟩
  ·rw [show f+k * 2=f+(k * 2+0) by omega,L];exact (dP l k z).1
  ·rw [show f+k * 2+1=f+(k * 2+1) by omega,M];exact (dP l k z).2) D d l.length 0 w s r q u2 u3 u4 u5 u9 u10 u11 u12 u13 u14 u15 u16 u17 u18 u19 (by omega) (aH.refl _ _) t i (fun p y x H I=>⟨H,y,x,I⟩)
 clear t d C h e;simp only [aV,Tryz.f129] at u;refine LoneTo.goes (n:=20) ?_;simp only [Tryz.f129,Option.getD_some]
 s_c stepG_seq
 s_reg
 s_op
 s_op
 s_op
 s_c stepG_region_end
 s_c stepG_block
 s_c stepG_loop
 s_stop
 exact u _ _ _ _ _ _ _ _ _ _ _ _ _ _ _
theorem EY (B c b L:Nat) (a:Option Addr) (l:List (Nat×List UInt8)) (C:World) (cs:List Frame) (R:World→Prop) (hl:l.length≤1000)
  (y:∀k (hk:k < l.length),∃g d,a=some ⟨g,d,none⟩∧g≠c∧C.cell? ⟨g,d+k * 2,none⟩=some (.int .i64 (l[k].1:Int))∧C.cell? ⟨g,d+k * 2+1,none⟩=some (.string (bs l[k].2)))
  (Z:B≠c) (f:C.cell? ⟨B,9,none⟩=some (.chan (some c))):
  ∀(m k:Nat) (w:World) (s r:Nat) (h:List Value) (u2 u3 u4 u5 u9 u10 u11 u12 u13 u14 u15 u16 u17 u18 u19:Value),k+m=l.length→aH (fun j=>j=c) C w→w.heap[c]? =some (.chan b h.toArray false s r false)→h.length+m≤b→
   (∀u O N,aH (fun j=>j=c) C u→u.heap[c]? =some (.chan b (h++gx (l.drop k) true).toArray false O N false)→R u)→
   LoneTo Tryz.prog (fun g' u=>∃e X,g'=G X cs∧(e= .returned (.tuple #[])∧R u)∧X.fn=131∧X.leaving Tryz.prog u e)
    (G ((base 131).at ⟨#[.pointer (some ⟨B,0,none⟩),.slice a l.length L,u2,u3,u4,u5,.slice a l.length L,.int .i64 l.length,.int .i64 k,u9,u10,u11,u12,u13,u14,u15,u16,u17,u18,u19],[]⟩ [.code (aV Tryz.f131.body),.inLoop (aV Tryz.f131.body),.inBlock 0]) cs) w:=by
 intro m
 induction m with
 | zero=>
  intro k w s r h u2 u3 u4 u5 u9 u10 u11 u12 u13 u14 u15 u16 u17 u18 u19 hk q p _ M;have H:=M w s r q (by rw [List.drop_eq_nil_of_le (by omega)];simpa [gx] using p);have A:¬(k:Int) < (l.length:Int):=by omega
  obtain ⟨n,D⟩:∃n,l.length=n:=⟨_,rfl⟩;rw [D] at A ⊢;clear M y p q;refine LoneTo.goes (n:=30) ?_;simp only [aV,Tryz.f131]
  s_c stepG_seq
  s_reg
  s_op
  s_c stepG_region_end
  s_c stepG_seq
  s_cond false
  s_exit
  s_c stepG_end
  s_stop
  exact LoneTo.done ⟨.returned (.tuple #[]),_,rfl,⟨rfl,H⟩,rfl,rfl,rfl,rfl,_,Tryz.func131,by simp [results,Tryz.f131,Frame.at]⟩
 | succ m ih=>
  intro k w s r h u2 u3 u4 u5 u9 u10 u11 u12 u13 u14 u15 u16 u17 u18 u19 hk q p Y M;have J:k < l.length:=by omega
  obtain ⟨g,d,rfl,hg,T,U⟩:=y k J;have A:(k:Int) < (l.length:Int):=by omega
  have V:w.cell? ⟨g,d+k * 2,none⟩=some (.int .i64 (l[k].1:Int)):=(World.cell?_of_block (q.block g (eI T) hg)).trans T;have W:w.cell? ⟨g,d+k * 2+1,none⟩=some (.string (bs l[k].2)):=(World.cell?_of_block (q.block g (eI U) hg)).trans U;have F:l.drop k=l[k]::l.drop (k+1):=List.drop_eq_getElem_cons J;obtain ⟨x,ex⟩:∃x,l[k]=x:=⟨_,rfl⟩;rw [ex] at V W F;obtain ⟨P,nm⟩:=x;simp only at V W;obtain ⟨n,D⟩:∃n,l.length=n:=⟨_,rfl⟩;have eS:(Value.slice (some ⟨g,d,none⟩) l.length L)= .slice (some ⟨g,d,none⟩) n L:=by rw [D]
  rw [D] at A;have t:=ih (k+1);simp only [aV,Tryz.f131] at t ⊢;rw [D] at t ⊢;refine LoneTo.goes (n:=60) ?_
  s_c stepG_seq
  s_reg
  s_op
  s_c stepG_region_end
  s_c stepG_seq
  s_cond true
  s_c stepG_skip
  s_c stepG_seq
  s_c stepG_block
  s_c stepG_seq
  s_reg
  s_op
  s_op
  s_op
  s_op
  s_c stepG_region_end
  s_stop
  have S:=heap_alloc_new w (.cells #[.int .i64 (P:Int),.string (bs nm)] 162);obtain ⟨i,z⟩:∃i:World,w.alloc (.cells #[.int .i64 (P:Int),.string (bs nm)] 162)=i:=⟨_,rfl⟩;have K:Below w.heap.size w i:=by rw [←z];exact (Below.refl _ _).alloc (Nat.le_refl _) _
  rw [z] at S ⊢;have p1:i.cell? ⟨w.heap.size,0,none⟩=some (.int .i64 (P:Int)):=by rw [Lib.cell_of_heap S];rfl
  have t1:i.cell? ⟨B,9,none⟩=some (.chan (some c)):=(K.cell (Nat.lt_of_lt_of_le (eI f) q.size)).trans ((World.cell?_of_block (q.block B (eI f) Z)).trans f);have q1:=ae K p;have v:c < i.drew.heap.size:=ah q1
  have K1:aH (fun j=>j=c) C (i.drew.setChan c b (h.toArray.push (df (P,true))) false (s+1) r false):=by
   refine (q.trans (aH.below (K.drew):aH (fun j=>j=c) w i.drew) (fun _ _ e=>e)).trans ?_ (fun _ _ e=>e);exact ⟨by simp [World.setChan],fun j hj hn=>by simp [World.setChan,Array.getElem?_setIfInBounds_ne (Ne.symm hn)],⟨rfl,rfl,rfl⟩⟩
  have q2:=heap_setChan i.drew c b (h.toArray.push (df (P,true))) false (s+1) r false v;refine EZ _ _ _ B c w.heap.size b s r _ h.toArray (P:Int) i t1 p1 q1 (by rw [List.size_toArray];omega) _ _ _ _ _ _ _ _ _ _ _ _ _ _ _ _ _ _ ?_;have o:h.toArray.push (df (P,true))=(h++[df (P,true)]).toArray:=by simp
  have a0:IntKind.i64.wrap ((k:Int)+1)=(k:Int)+1:=by rw [IntKind.wrap_i64];omega
  change LoneTo _ _ _ (i.drew.setChan c b (h.toArray.push (df (P,true))) false (s+1) r false);obtain ⟨Q,E⟩:∃Q:World,i.drew.setChan c b (h.toArray.push (df (P,true))) false (s+1) r false=Q:=⟨_,rfl⟩;rw [E] at K1 q2 ⊢;rw [o] at q2;have I:=t Q (s+1) r (h++[df (P,true)]);clear E z S K p1 t1 q1 v ih t p q V W T U o;refine LoneTo.goes (n:=20) ?_
  s_c stepG_inBlock
  s_reg
  s_op
  s_op
  s_c stepG_region_end
  s_c stepG_inLoop
  s_stop
  rw [show (k:Int)+1=((k+1:Nat):Int) from rfl]
  exact I _ _ _ _ _ _ _ _ _ _ _ _ _ _ _ (by omega) K1 q2 (by rw [List.length_append];simp only [List.length_cons,List.length_nil];omega) (fun u O N h1 h2=>M u O N h1 (by
   rw [F];show u.heap[c]? =some (.chan b (h++(df (P,true)::gx (l.drop (k+1)) true)).toArray false O N false);rw [h2,List.append_assoc]
   rfl))
theorem GQ (o g c:Nat) (v:Value) (l:List (Nat×List UInt8)) (w:World) (s r:Nat) (q:List Value) (K:l.length≤1000) (h:bg w v l.length 2 (aR l)) (J:v.ownBlock≠some g) (D:o≠g) (d:w.cell? ⟨o,9,none⟩=some (.chan (some g))) (t:w.heap[g]? =some (.chan c q.toArray false s r false)) (i:q.length+l.length≤c):
  Calls Tryz.prog 131 #[.pointer (some ⟨o,0,none⟩),v] w fun e p=>e= .returned (.tuple #[])∧aH (fun j=>j=g) w p∧∃y x,p.heap[g]? =some (.chan c (q++gx l true).toArray false y x false):=by
 obtain ⟨a,A,rfl,C⟩:=h.shape;refine calls_of_loneTo fun F=>?_
 have e:Frame.enter Tryz.prog 131 #[.pointer (some ⟨o,0,none⟩),.slice a l.length A] .normal=(base 131).at ⟨#[.pointer (some ⟨o,0,none⟩),.slice a l.length A,undef,undef,undef,undef,undef,undef,undef,undef,undef,undef,undef,undef,undef,undef,undef,undef,undef,undef],[]⟩ [.code (Tryz.f131.body.getD .skip)]:=by
  simp [Frame.enter,Frame.at,Tryz.func131,base,Tryz.f131]
 rw [e]
 have u:=fun u2 u3 u4 u5 u9 u10 u11 u12 u13 u14 u15 u16 u17 u18 u19=>EY o g c A a l w F (fun p=>aH (fun j=>j=g) w p∧∃y x,p.heap[g]? =some (.chan c (q++gx l true).toArray false y x false)) K (fun k z=>by
  obtain ⟨b,f,B,_,L⟩:=C k 0 z (by decide);obtain ⟨N,E,m,_,M⟩:=C k 1 z (by decide);rw [B] at m;injection m with m;injection m with m e3;subst m e3;refine ⟨b,f,B,fun G=>J (by rw [B,G];rfl),?_,?_⟩
  ·rw [show f+k * 2=f+(k * 2+0) by omega,L];exact (dP l k z).1
  ·rw [show f+k * 2+1=f+(k * 2+1) by omega,M];exact (dP l k z).2) D d l.length 0 w s r q u2 u3 u4 u5 u9 u10 u11 u12 u13 u14 u15 u16 u17 u18 u19 (by omega) (aH.refl _ _) t i (fun p y x H I=>⟨H,y,x,I⟩)
 clear t d C h e;simp only [aV,Tryz.f131] at u;refine LoneTo.goes (n:=20) ?_;simp only [Tryz.f131,Option.getD_some]
 s_c stepG_seq
 s_reg
 s_op
 s_op
 s_op
 s_c stepG_region_end
 s_c stepG_block
 s_c stepG_loop
 s_stop
 exact u _ _ _ _ _ _ _ _ _ _ _ _ _ _ _
section
variable {w w':World} {tb ch pp pb:Nat} {va vu vl:Value} {frm body:List UInt8} {cap:Nat} {t:aQ}
theorem wS (t:aQ) (l:List (Nat×List UInt8)) (b:Bool):t.came.map df++gx l b=(t.leave l b).came.map df:=by
 unfold aQ.leave gx;rw [List.map_append,List.map_map];rfl
theorem bR.sent (h:bR w tb ch pp pb va vu vl frm body cap false t) (l:List (Nat×List UInt8)) (b:Bool) (c:aH (fun j=>j=ch) w w') (f:∃s r,w'.heap[ch]? =some (.chan cap (t.came.map df++gx l b).toArray false s r false)):bR w' tb ch pp pb va vu vl frm body cap false (t.leave l b):=by
 obtain ⟨s,r,e⟩:=f;rw [wS] at e;exact ⟨c.some_ h.blk h.tc,⟨s,r,e⟩,h.una.chg c (fun g a d=>(h.at_ g (h.ua g a)).2.1 d),bC h.wil c (fun g a d=>(h.lb a).2.1 d),h.ua,h.al,fun k a=>⟨(h.at_ k a).1,(h.at_ k a).2.1,Nat.lt_of_lt_of_le (h.at_ k a).2.2 c.size⟩⟩
theorem pL (h:bR w tb ch pp pb va vu vl frm body cap false t) (v:Value) (l:List (Nat×List UInt8)) (g:bg w v l.length 2 (aR l)) (i:v.ownBlock≠some ch) (f:l.length≤1000) (a:t.came.length+l.length≤cap):
  Calls Tryz.prog 129 #[.pointer (some ⟨tb,0,none⟩),v] w fun e w'=>e= .returned (.tuple #[])∧bR w' tb ch pp pb va vu vl frm body cap false (t.leave l false)∧aH (lA tb ch va vl) w w':=by
 obtain ⟨s,r,d⟩:=h.chan;refine (CD tb ch cap v l w s r (t.came.map df) f g i h.tc (h.cell 9) d (by rw [List.length_map];exact a)).mono ?_;rintro e w' ⟨rfl,b,c⟩;exact ⟨rfl,h.sent l false b c,b.mono (fun k _ e=> .inr (.inl e))⟩
theorem JY (h:bR w tb ch pp pb va vu vl frm body cap false t) (v:Value) (l:List (Nat×List UInt8)) (g:bg w v l.length 2 (aR l)) (i:v.ownBlock≠some ch) (f:l.length≤1000) (a:t.came.length+l.length≤cap):
  Calls Tryz.prog 131 #[.pointer (some ⟨tb,0,none⟩),v] w fun e w'=>e= .returned (.tuple #[])∧bR w' tb ch pp pb va vu vl frm body cap false (t.leave l true)∧aH (lA tb ch va vl) w w':=by
 obtain ⟨s,r,d⟩:=h.chan;refine (GQ tb ch cap v l w s r (t.came.map df) f g i h.tc (h.cell 9) d (by rw [List.length_map];exact a)).mono ?_;rintro e w' ⟨rfl,b,c⟩;exact ⟨rfl,h.sent l true b c,b.mono (fun k _ e=> .inr (.inl e))⟩
theorem fQ.after {x:aQ×List UInt8} {d:World} {e:Ending} (c:aH (lA tb ch va vl) w d) (h:fQ tb ch pp pb va vl frm body cap d x e w'):fQ tb ch pp pb va vl frm body cap w x e w':=by
 obtain ⟨f,b,a,g,i,j⟩:=h;exact ⟨f,b,a,g,c.trans i (fun _ _ e=>e),fun k e=>(j k e).imp id (fun e=>Nat.le_trans c.size e)⟩
theorem qN (h:bR w tb ch pp pb va vu vl frm body cap false t) (b c:List UInt8) (q:w.cell? ⟨pp,0,none⟩=some (.string (bs b))) (r:b.length≤1000) (i:t.said=0) (a:Nat):
  Calls Tryz.prog 87 #[.pointer (some ⟨tb,0,none⟩),.int .i64 (a:Int)] w (fQ tb ch pp pb va vl frm body cap w (t.hear b frm c a)):=by
 by_cases g:a=2
 ·have d:t.hear b frm c a=t.say 1 ([69,72,76,79,32]++b):=by unfold aQ.hear;rw [if_pos i,if_pos g]
  rw [d];have p:w.cell? ⟨tb,0,none⟩=some (.pointer (some ⟨pp,0,none⟩)):=h.cell 0;have k:=Lib.hid (nZ h 1 ([69,72,76,79,32]++b) (by rw [List.length_append];simp only [List.length_cons,List.length_nil];omega));have l:Hid ((⟨#[69,72,76,79,32]⟩:ByteArray)++bs b=bs ([69,72,76,79,32]++b)):=Lib.hid (cE [69,72,76,79,32] b);have n:=aG b;subst g;clear h d i;go_enter Tryz.func87,Tryz.ntmps87;go_wp2_with fail
  rw [l.out];refine k.out.mono ?_;rintro e o ⟨rfl,f⟩;have j:=Lib.hid f;clear f;go_wp2_with fail
  go_ret;exact ⟨rfl,j.out⟩
 ·have d:t.hear b frm c a=t.quit:=by unfold aQ.hear;rw [if_pos i,if_neg g]
  rw [d];have m:((a:Int) == 2)=false:=by rw [beq_eq_false_iff_ne];omega
  have k:=Lib.hid (fD h);clear h d i g;go_enter Tryz.func87,Tryz.ntmps87;go_wp2_with fail
  refine k.out.mono ?_;rintro e o ⟨rfl,f⟩;have j:=Lib.hid f;clear f;go_wp2_with fail
  go_ret;exact ⟨rfl,j.out⟩
theorem wH (h:bR w tb ch pp pb va vu vl frm body cap false t) (b c:List UInt8) (q:frm.length≤1000) (i:t.said=1) (a:Nat):
  Calls Tryz.prog 88 #[.pointer (some ⟨tb,0,none⟩),.int .i64 (a:Int)] w (fQ tb ch pp pb va vl frm body cap w (t.hear b frm c a)):=by
 by_cases g:a=2
 ·have d:t.hear b frm c a=t.say 2 ([77,65,73,76,32,70,82,79,77,58,60]++frm++[62]):=by unfold aQ.hear;rw [if_neg (by omega),if_pos i,if_pos g]
  rw [d];have p:w.cell? ⟨tb,3,none⟩=some (.string (bs frm)):=h.cell 3;have k:=Lib.hid (nZ h 2 ([77,65,73,76,32,70,82,79,77,58,60]++frm++[62]) (by simp only [List.length_append,List.length_cons,List.length_nil];omega))
  have l:Hid (((⟨#[77,65,73,76,32,70,82,79,77,58,60]⟩:ByteArray)++bs frm)++(⟨#[62]⟩:ByteArray)=bs ([77,65,73,76,32,70,82,79,77,58,60]++frm++[62])):=Lib.hid (by
   rw [←cE ([77,65,73,76,32,70,82,79,77,58,60]++frm) [62],←cE [77,65,73,76,32,70,82,79,77,58,60] frm]
   rfl)
  have n:=aG frm;subst g;clear h d i;go_enter Tryz.func88,Tryz.ntmps88;go_wp2_with fail
  rw [l.out];refine k.out.mono ?_;rintro e o ⟨rfl,f⟩;have j:=Lib.hid f;clear f;go_wp2_with fail
  go_ret;exact ⟨rfl,j.out⟩
 ·have d:t.hear b frm c a=t.quit:=by unfold aQ.hear;rw [if_neg (by omega),if_pos i,if_neg g]
  rw [d];have m:((a:Int) == 2)=false:=by rw [beq_eq_false_iff_ne];omega
  have k:=Lib.hid (fD h);clear h d i g;go_enter Tryz.func88,Tryz.ntmps88;go_wp2_with fail
  refine k.out.mono ?_;rintro e o ⟨rfl,f⟩;have j:=Lib.hid f;clear f;go_wp2_with fail
  go_ret;exact ⟨rfl,j.out⟩
theorem ui (h:bR w tb ch pp pb va vu vl frm body cap false t) (b c:List UInt8) (o:∀x∈t.una,x.2.length≤1000) (m:t.una.length≤1000) (q:t.wil.length≤1000) (g:t.came.length+t.una.length≤cap) (j:t.said=2) (a:Nat):
  Calls Tryz.prog 89 #[.pointer (some ⟨tb,0,none⟩),.int .i64 (a:Int)] w (fQ tb ch pp pb va vl frm body cap w (t.hear b frm c a)):=by
 by_cases i:a=2
 ·have d:t.hear b frm c a=t.ask:=by unfold aQ.hear;rw [if_neg (by omega),if_neg (by omega),if_pos j,if_pos i]
  rw [d];have l:=Lib.hid (pw h o m q);subst i;clear h d j o;go_enter Tryz.func89,Tryz.ntmps89;go_wp2_with fail
  refine l.out.mono ?_;rintro e y ⟨rfl,f⟩;have k:=Lib.hid f;clear f;go_wp2_with fail
  go_ret;exact ⟨rfl,k.out⟩
 ·have C:((a:Int) == 2)=false:=by rw [beq_eq_false_iff_ne];omega
  by_cases n:a=5
  ·have d:t.hear b frm c a=(t.leave t.una false).quit:=by unfold aQ.hear;rw [if_neg (by omega),if_neg (by omega),if_pos j,if_neg i,if_pos n]
   rw [d];obtain ⟨A,B,p⟩:=aE h.una;have D:w.cell? ⟨tb,7,none⟩=some (.slice A t.una.length B):=by rw [←p];exact h.cell 7
   have r:=Lib.hid (pL h vu t.una h.una (fun e=>(h.at_ ch (h.ua ch e)).2.1 rfl) m g);rw [p] at r;subst n;clear h d j o i p;go_enter Tryz.func89,Tryz.ntmps89;go_wp2_with fail
   refine r.out.mono ?_;rintro e y ⟨rfl,u,s⟩;have l:=Lib.hid (fD u);have z:=Lib.hid s;clear u s;go_wp2_with fail
   refine l.out.mono ?_;intro e E f;have k:=Lib.hid (fQ.after z.out f);obtain ⟨rfl,_⟩:=f;go_wp2_with fail
   go_ret;exact k.out
  ·have d:t.hear b frm c a=t.quit:=by unfold aQ.hear;rw [if_neg (by omega),if_neg (by omega),if_pos j,if_neg i,if_neg n]
   rw [d];have v:((a:Int) == 5)=false:=by rw [beq_eq_false_iff_ne];omega
   have l:=Lib.hid (fD h);clear h d j i n o;go_enter Tryz.func89,Tryz.ntmps89;go_wp2_with fail
   refine l.out.mono ?_;rintro e y ⟨rfl,f⟩;have k:=Lib.hid f;clear f;go_wp2_with fail
   go_ret;exact ⟨rfl,k.out⟩
end
section
variable {w w':World} {tb ch pp pb:Nat} {va vu vl:Value} {frm body:List UInt8} {cap:Nat} {t:aQ}
theorem fQ.later {x:aQ×List UInt8} {g:World} {e:Ending} {a:Value} (_:∀k,lA tb ch va vl k→k < w.heap.size) (d:aH (lA tb ch va vl) w g) (f:∀k,a.ownBlock=some k→vl.ownBlock=some k∨w.heap.size≤k) (h:fQ tb ch pp pb va a frm body cap g x e w'):fQ tb ch pp pb va vl frm body cap w x e w':=by
 obtain ⟨i,c,b,j,l,m⟩:=h;refine ⟨i,c,b,j,d.trans l (fun k n e=>?_),fun k e=>(m k e).elim (f k) (fun e=> .inr (Nat.le_trans d.size e))⟩
 rcases e with e | e | e | e
 ·exact .inl e
 ·exact .inr (.inl e)
 ·exact .inr (.inr (.inl e))
 ·exact (f k e).elim (fun e=> .inr (.inr (.inr e))) (fun e=>by omega)
theorem pP (h:bR w tb ch pp pb va vu vl frm body cap false t) (l m:List UInt8) (Y:∀x∈t.una,x.2.length≤1000) (S:t.una.length≤1000) (a2:t.wil.length≤999) (y:t.came.length+t.una.length≤cap) (M:t.said=3) (hu:t.una≠[]) (a:Nat):
  Calls Tryz.prog 90 #[.pointer (some ⟨tb,0,none⟩),.int .i64 (a:Int)] w (fQ tb ch pp pb va vl frm body cap w (t.hear l frm m a)):=by
 obtain ⟨r,u,E⟩:∃r u,t.una=r::u:=by
  cases e:t.una with
  | nil=>exact absurd e hu
  | cons r u=>exact ⟨r,u,rfl⟩
 obtain ⟨b,B,G,c,L,K,J,Z,ru⟩:=JB h.una E;obtain ⟨I,V⟩:=h.cut E L ru;have c7:w.cell? ⟨tb,7,none⟩=some (.slice (some ⟨b,B,none⟩) (u.length+1) (c+1)):=by rw [←L];exact h.cell 7
 have f7:=h.frozen 7;have ul:u.length+1≤1000:=by rw [E] at S;simpa using S
 have R:va.ownBlock=some b:=h.ua b (by rw [L];rfl);have a0:b≠tb:=(h.at_ b R).1;have q:bg (w.setCell ⟨tb,7,none⟩ (.slice (some ⟨b,G,none⟩) u.length c)) (.slice (some ⟨b,B,none⟩) 1 (c+1)) 1 2 (aR [r]):=Z.chg (aH.same ((aL.refl tb w).setCell _)) (fun g e e2=>a0 ((show b=g by simpa [Value.ownBlock] using e).trans e2));have p:∀x∈t.una.drop 1,x.2.length≤1000:=fun x hx=>Y x (List.mem_of_mem_drop hx);have A:(t.una.drop 1).length≤1000:=by rw [List.length_drop];omega
 have O:Hid (∀k,lA tb ch va vl k→k < w.heap.size):=Lib.hid (fun k e=>h.lt e);have j:=Lib.hid V;have i2:(1:Int)≤(u.length:Int)+1:=by omega
 obtain ⟨W1,v⟩:∃W1:World,w.setCell ⟨tb,7,none⟩ (.slice (some ⟨b,G,none⟩) u.length c)=W1:=⟨_,rfl⟩;rw [v] at I q j;have f:=Lib.hid v;have P:t.una.take 1=[r]:=by rw [E];rfl
 obtain ⟨T,H⟩:∃T,u.length=T:=⟨_,rfl⟩;have d8:w.cell? ⟨tb,8,none⟩=some vl:=h.cell 8;obtain ⟨al,cl,el⟩:=aE (aF h.wil)
 by_cases Q:a=2
 ·have D:t.hear l frm m a=({t with una:=t.una.drop 1,wil:=t.wil++[r]}:aQ).ask:=by unfold aQ.hear;rw [if_neg (by omega),if_neg (by omega),if_neg (by omega),if_pos M,if_pos Q,P]
  rw [D];obtain ⟨g,cp,W2,k1,k2,k3,F,C,G2⟩:=I.more q (by show t.wil.length≤1000;omega);have o:=Lib.hid (pw F p A (by show (t.wil++[r]).length≤1000;rw [List.length_append];simp only [List.length_cons,List.length_nil];omega));obtain ⟨X,z⟩:∃X,({t with una:=t.una.drop 1,wil:=t.wil++[r]}:aQ).ask=X:=⟨_,rfl⟩;rw [z] at o ⊢;have HR:=Lib.hid k1;have n:=Lib.hid (j.out.trans C (fun _ _ e=>e))
  have HG:Hid (∀k,(Value.slice (some ⟨g,0,none⟩) (t.wil.length+1) cp).ownBlock=some k→vl.ownBlock=some k∨w.heap.size≤k):=Lib.hid (fun k e=>by
   have e:g=k:=by simpa [Value.ownBlock] using e
   rw [←e]
   exact G2.imp id (fun e=>Nat.le_trans j.out.size e))
  rw [el] at d8 k2 HR;subst Q;clear h I Z q ru D M Y p E P F C k1 G2 V v L z;rw [H] at c7 f i2 K ul
  rcases J with ⟨rfl,rfl⟩ | ⟨c',rfl,rfl⟩
  ·obtain rfl:T=0:=by omega
   have d:=HR.out;rw [←f.out] at d;have d:=Lib.hid d;go_enter Tryz.func90,Tryz.ntmps90
   go_wp2_with (first
    | (at_builtin;refine bB rfl _ _ 102 rfl _ _ (.slice (some ⟨g,0,none⟩) (t.wil.length+1) cp) W2 rfl rfl d.out ?_)
    | fail)
   refine o.out.mono ?_;intro e U i;have s:=Lib.hid (fQ.later O.out n.out HG.out i);obtain ⟨rfl,_⟩:=i;go_wp2_with fail
   go_ret;exact ⟨rfl,s.out.2⟩
  ·have d:=HR.out;rw [←f.out] at d;have d:=Lib.hid d;go_enter Tryz.func90,Tryz.ntmps90
   go_wp2_with (first
    | (at_builtin;refine bB rfl _ _ 102 rfl _ _ (.slice (some ⟨g,0,none⟩) (t.wil.length+1) cp) W2 rfl rfl d.out ?_)
    | fail)
   refine o.out.mono ?_;intro e U i;have s:=Lib.hid (fQ.later O.out n.out HG.out i);obtain ⟨rfl,_⟩:=i;go_wp2_with fail
   go_ret;exact ⟨rfl,s.out.2⟩
 ·have a3:((a:Int) == 2)=false:=by rw [beq_eq_false_iff_ne];omega
  by_cases W:a=5
  ·have D:t.hear l frm m a=(({t with una:=t.una.drop 1}:aQ).leave [r] false).ask:=by unfold aQ.hear;rw [if_neg (by omega),if_neg (by omega),if_neg (by omega),if_pos M,if_neg Q,if_pos W,P]
   rw [D];have hv:(Value.slice (some ⟨b,B,none⟩) 1 (c+1)).ownBlock≠some ch:=fun e=>(h.at_ b R).2.1 (by simpa [Value.ownBlock] using e);have HF:=Lib.hid (pL I (.slice (some ⟨b,B,none⟩) 1 (c+1)) [r] q hv (by simp) (by show t.came.length+1≤cap;rw [E] at y;simp only [List.length_cons] at y;omega));have HZ:=Lib.hid p;obtain ⟨X,z⟩:∃X,(({t with una:=t.una.drop 1}:aQ).leave [r] false).ask=X:=⟨_,rfl⟩;rw [z];have N:=Lib.hid z;subst W;clear h I Z q ru D M Y p E P V v L hv el d8 z;rw [H] at c7 f i2 K ul
   rcases J with ⟨rfl,rfl⟩ | ⟨c',rfl,rfl⟩
   ·obtain rfl:T=0:=by omega
    go_enter Tryz.func90,Tryz.ntmps90;go_wp2_with fail
    rw [f.out];refine HF.out.mono ?_;rintro e w2 ⟨rfl,F,C⟩;have o:=Lib.hid (pw F HZ.out A (by show t.wil.length≤1000;omega));rw [N.out] at o;have n:=Lib.hid (j.out.trans C (fun _ _ e=>e));clear F C;go_wp2_with fail
    refine o.out.mono ?_;intro e U i;have s:=Lib.hid (fQ.after n.out i);obtain ⟨rfl,_⟩:=i;go_wp2_with fail
    go_ret;exact ⟨rfl,s.out.2⟩
   ·go_enter Tryz.func90,Tryz.ntmps90;go_wp2_with fail
    rw [f.out];refine HF.out.mono ?_;rintro e w2 ⟨rfl,F,C⟩;have o:=Lib.hid (pw F HZ.out A (by show t.wil.length≤1000;omega));rw [N.out] at o;have n:=Lib.hid (j.out.trans C (fun _ _ e=>e));clear F C;go_wp2_with fail
    refine o.out.mono ?_;intro e U i;have s:=Lib.hid (fQ.after n.out i);obtain ⟨rfl,_⟩:=i;go_wp2_with fail
    go_ret;exact ⟨rfl,s.out.2⟩
  ·have D:t.hear l frm m a=({t with una:=t.una.drop 1}:aQ).ask:=by unfold aQ.hear;rw [if_neg (by omega),if_neg (by omega),if_neg (by omega),if_pos M,if_neg Q,if_neg W]
   rw [D];have a1:((a:Int) == 5)=false:=by rw [beq_eq_false_iff_ne];omega
   have o:=Lib.hid (pw I p A (by show t.wil.length≤1000;omega));obtain ⟨X,z⟩:∃X,({t with una:=t.una.drop 1}:aQ).ask=X:=⟨_,rfl⟩;rw [z] at o ⊢;clear h I Z q ru D M Y p E P V v L el d8 Q W z;rw [H] at c7 f i2 K ul
   rcases J with ⟨rfl,rfl⟩ | ⟨c',rfl,rfl⟩
   ·obtain rfl:T=0:=by omega
    go_enter Tryz.func90,Tryz.ntmps90;go_wp2_with fail
    rw [f.out];refine o.out.mono ?_;intro e U i;have s:=Lib.hid (fQ.after j.out i);obtain ⟨rfl,_⟩:=i;go_wp2_with fail
    go_ret;exact ⟨rfl,s.out.2⟩
   ·go_enter Tryz.func90,Tryz.ntmps90;go_wp2_with fail
    rw [f.out];refine o.out.mono ?_;intro e U i;have s:=Lib.hid (fQ.after j.out i);obtain ⟨rfl,_⟩:=i;go_wp2_with fail
    go_ret;exact ⟨rfl,s.out.2⟩
theorem y9 (h:bR w tb ch pp pb va vu vl frm body cap false t) (c b:List UInt8) (s:t.wil.length≤1000) (i:t.came.length+t.wil.length≤cap) (k:t.said=4) (H:b.length≤10000000000000) (r:Calls Tryz.prog 130 #[.string (bs body)] w fun e w'=>e= .returned (.string (bs b))∧Below w.heap.size w w') (a:Nat):
  Calls Tryz.prog 91 #[.pointer (some ⟨tb,0,none⟩),.int .i64 (a:Int)] w (fQ tb ch pp pb va vl frm body cap w (t.hear c frm b a)):=by
 by_cases j:a=3
 ·have d:t.hear c frm b a=t.say 5 (b++yQ++[46]):=by unfold aQ.hear;rw [if_neg (by omega),if_neg (by omega),if_neg (by omega),if_neg (by omega),if_pos k,if_pos j]
  rw [d];have K:w.cell? ⟨tb,5,none⟩=some (.string (bs body)):=h.cell 5;have C:=Lib.hid r
  have v:Hid ((bs b++(⟨#[13,10]⟩:ByteArray))++(⟨#[46]⟩:ByteArray)=bs (b++yQ++[46])):=Lib.hid (by
   rw [←cE (b++yQ) [46],←cE b yQ]
   rfl)
  have n:(b++yQ++[46]).length≤100000000000000:=by simp only [yQ,List.length_append,List.length_cons,List.length_nil];omega
  obtain ⟨L,z⟩:∃L,b++yQ++[46]=L:=⟨_,rfl⟩;rw [z] at v n ⊢;have I:=aG b;have D:=Lib.hid h;subst j;clear h d k r z;go_enter Tryz.func91,Tryz.ntmps91;go_wp2_with fail
  refine C.out.mono ?_;rintro e u ⟨rfl,g⟩;have m:=Lib.hid (nZ (D.out.below g) 5 L n);have p:=Lib.hid (aH.below g:aH (lA tb ch va vl) w u);clear g;go_wp2_with fail
  rw [v.out];refine m.out.mono ?_;intro e J f;have l:=Lib.hid (fQ.after p.out f);obtain ⟨rfl,_⟩:=f;go_wp2_with fail
  go_ret;exact ⟨rfl,l.out.2⟩
 ·have G:((a:Int) == 3)=false:=by rw [beq_eq_false_iff_ne];omega
  clear r
  by_cases o:a=5
  ·have d:t.hear c frm b a=(t.leave t.wil false).quit:=by unfold aQ.hear;rw [if_neg (by omega),if_neg (by omega),if_neg (by omega),if_neg (by omega),if_pos k,if_neg j,if_pos o]
   rw [d];obtain ⟨E,F,q⟩:=aE (aF h.wil);have M:w.cell? ⟨tb,8,none⟩=some (.slice E t.wil.length F):=by rw [←q];exact h.cell 8
   have x:=Lib.hid (pL h vl t.wil (aF h.wil) (fun e=>(h.lb e).2.1 rfl) s i);rw [q] at x;subst o;clear h d k j;go_enter Tryz.func91,Tryz.ntmps91;go_wp2_with fail
   refine x.out.mono ?_;rintro e u ⟨rfl,A,y⟩;have m:=Lib.hid (fD A);have p:=Lib.hid y;clear A y;go_wp2_with fail
   refine m.out.mono ?_;intro e J f;have l:=Lib.hid (fQ.after p.out f);obtain ⟨rfl,_⟩:=f;go_wp2_with fail
   go_ret;rw [q];exact ⟨rfl,l.out.2⟩
  ·have d:t.hear c frm b a=t.quit:=by unfold aQ.hear;rw [if_neg (by omega),if_neg (by omega),if_neg (by omega),if_neg (by omega),if_pos k,if_neg j,if_neg o]
   rw [d];have B:((a:Int) == 5)=false:=by rw [beq_eq_false_iff_ne];omega
   have m:=Lib.hid (fD h);clear h d k j o;go_enter Tryz.func91,Tryz.ntmps91;go_wp2_with fail
   refine m.out.mono ?_;rintro e u ⟨rfl,f⟩;have l:=Lib.hid f;clear f;go_wp2_with fail
   go_ret;exact ⟨rfl,l.out⟩
theorem yZ (h:bR w tb ch pp pb va vu vl frm body cap false t) (b c:List UInt8) (p:t.wil.length≤1000) (d:t.came.length+t.wil.length≤cap) (v:t.said=5) (a:Nat):
  Calls Tryz.prog 92 #[.pointer (some ⟨tb,0,none⟩),.int .i64 (a:Int)] w (fQ tb ch pp pb va vl frm body cap w (t.hear b frm c a)):=by
 by_cases j:a=2
 ·have f:t.hear b frm c a=(t.leave t.wil true).quit:=by unfold aQ.hear;rw [if_neg (by omega),if_neg (by omega),if_neg (by omega),if_neg (by omega),if_neg (by omega),if_pos j]
  rw [f];obtain ⟨s,u,i⟩:=aE (aF h.wil);have z:w.cell? ⟨tb,8,none⟩=some (.slice s t.wil.length u):=by rw [←i];exact h.cell 8
  have k:=Lib.hid (JY h vl t.wil (aF h.wil) (fun e=>(h.lb e).2.1 rfl) p d);rw [i] at k;subst j;clear h f v;go_enter Tryz.func92,Tryz.ntmps92;go_wp2_with fail
  refine k.out.mono ?_;rintro e y ⟨rfl,o,n⟩;have m:=Lib.hid (fD o);have r:=Lib.hid n;clear o n;go_wp2_with fail
  refine m.out.mono ?_;intro e B g;have l:=Lib.hid (fQ.after r.out g);obtain ⟨rfl,_⟩:=g;go_wp2_with fail
  go_ret;rw [i];exact ⟨rfl,l.out.2⟩
 ·have A:((a:Int) == 2)=false:=by rw [beq_eq_false_iff_ne];omega
  by_cases q:a=5
  ·have f:t.hear b frm c a=(t.leave t.wil false).quit:=by unfold aQ.hear;rw [if_neg (by omega),if_neg (by omega),if_neg (by omega),if_neg (by omega),if_neg (by omega),if_neg j,if_pos q]
   rw [f];obtain ⟨s,u,i⟩:=aE (aF h.wil);have z:w.cell? ⟨tb,8,none⟩=some (.slice s t.wil.length u):=by rw [←i];exact h.cell 8
   have k:=Lib.hid (pL h vl t.wil (aF h.wil) (fun e=>(h.lb e).2.1 rfl) p d);rw [i] at k;subst q;clear h f v j;go_enter Tryz.func92,Tryz.ntmps92;go_wp2_with fail
   refine k.out.mono ?_;rintro e y ⟨rfl,o,n⟩;have m:=Lib.hid (fD o);have r:=Lib.hid n;clear o n;go_wp2_with fail
   refine m.out.mono ?_;intro e B g;have l:=Lib.hid (fQ.after r.out g);obtain ⟨rfl,_⟩:=g;go_wp2_with fail
   go_ret;rw [i];exact ⟨rfl,l.out.2⟩
  ·have f:t.hear b frm c a=t.quit:=by unfold aQ.hear;rw [if_neg (by omega),if_neg (by omega),if_neg (by omega),if_neg (by omega),if_neg (by omega),if_neg j,if_neg q]
   rw [f];have x:((a:Int) == 5)=false:=by rw [beq_eq_false_iff_ne];omega
   have m:=Lib.hid (fD h);clear h f v j q;go_enter Tryz.func92,Tryz.ntmps92;go_wp2_with fail
   refine m.out.mono ?_;rintro e y ⟨rfl,g⟩;have l:=Lib.hid g;clear g;go_wp2_with fail
   go_ret;exact ⟨rfl,l.out⟩
end
theorem rE {P:Program} {a:Act} {o:Oper} {w:World} (s x:Operand) (t:TypeId) (b:o.op= .call {callee:= .builtin .append,args:=#[s,x],argTypes:=#[t,t]}) (v y r:Value) (w':World) (d:a.eval s=v) (e:a.eval x=y) (c:(Builtin.append_ #[t,t] o.type #[v,y]).run P w= .ok r w'):(execOp a.eval o).run P w= .ok (.value r) w':=by
 unfold execOp;simp only [b,resolve,invoke,builtin,Sem.run_bind,Sem.run_pure,Result.andThen_ok,List.map_toArray,List.map_cons,List.map_nil,d,e,c]
structure kK (w0 w:World) (ch:Nat) (vg vf:Value) (gs fs:List Nat):Prop where
 chg:aH (fun j=>j=ch) w0 w
 rg:w.ownsRow w0.heap.size 3 1 vg gs.length (aZ gs)
 rf:w.ownsRow w0.heap.size 3 1 vf fs.length (aZ fs)
 ap:∀k,vg.ownBlock=some k→vf.ownBlock≠some k
section
variable {w0 w w':World} {ch:Nat} {vg vf:Value} {gs fs:List Nat}
theorem kK.swap (h:kK w0 w ch vg vf gs fs):kK w0 w ch vf vg fs gs:=⟨h.chg,h.rf,h.rg,fun k e a=>h.ap k a e⟩
theorem kK.keep (h:kK w0 w ch vg vf gs fs) (a:aH (fun j=>j=ch) w w') (c:ch < w0.heap.size):kK w0 w' ch vg vf gs fs:=
 ⟨h.chg.trans a (fun _ _ e=>e),bC h.rg a (fun g e b=>by have:=(h.rg.lt g e).1;omega),bC h.rf a (fun g e b=>by have:=(h.rf.lt g e).1;omega),h.ap⟩
theorem kK.plus (h:kK w0 w ch vg vf gs fs) (y:ch < w0.heap.size) (x B:Nat) (v:w.heap[B]? =some (.cells #[.int .i64 (x:Int)] 3 (0,0))) (E:gs.length≤1000):
  ∃g d w',(Builtin.append_ #[28,28] 28 #[vg,.slice (some ⟨B,0,none⟩) 1 1]).run Tryz.prog w= .ok (.slice (some ⟨g,0,none⟩) (gs.length+1) d) w'∧kK w0 w' ch (.slice (some ⟨g,0,none⟩) (gs.length+1) d) vf (gs++[x]) fs∧w'.heap[ch]? =w.heap[ch]? :=by
 obtain ⟨i,z,l,m,n⟩:=info_parts qP;have c:=h.chg.size;obtain ⟨g,d,w',D,q,r⟩:=gC (P:=Tryz.prog) w 28 28 w0.heap.size 3 i _ 1 8 Tryz.underlying28 z l m n rfl (by decide) vg gs.length (aZ gs) h.rg ⟨B,0,none⟩ 1 1 [.int .i64 (x:Int)] rfl (World.news_of_block (cs:=#[.int .i64 (x:Int)]) (t:=3) (fr:=(0,0)) v) (by intro u p;simp at p;rw [p];rfl) (by decide) (by unfold maxLen;omega) (by omega) c
 have a:aH (fun k=>vg.ownBlock=some k) w w':=by
  rcases r with ⟨b,j⟩ | ⟨_,j⟩
  ·exact (aH.grown j).mono fun k _ e=>b.trans e
  ·exact (aH.grown j).mono fun k _ e=>by cases e
 have s:vg.ownBlock=some g∨w.heap.size≤g:=by
  rcases r with ⟨b,_⟩ | ⟨b,_⟩
  ·exact .inl b
  ·exact .inr (by rw [b];exact Nat.le_refl _)
 refine ⟨g,d,w',D,⟨⟨Nat.le_trans c a.size,fun k A C=>(a.block k (by omega) (fun e=>by have:=(h.rg.lt k e).1;omega)).trans (h.chg.block k A C),h.chg.still.trans a.still⟩,?_,bC h.rf a (fun k e f=>h.ap k f e),fun k e f=>?_⟩,a.block ch (by omega) (fun e=>by have:=(h.rg.lt ch e).1;omega)⟩
 ·rw [List.length_append];unfold aZ at q ⊢;rw [List.map_append];exact q
 ·have e:g=k:=by simpa [Value.ownBlock] using e
  subst e
  rcases s with o | o
  ·exact h.ap g o f
  ·have:=(h.rf.lt g f).2;omega
end
theorem EF (O ch C:Nat) (w0:World) (cs:List Frame) (R:Value→Value→World→Prop) (a:ch < w0.heap.size) (a2:O≠ch) (i:w0.cell? ⟨O,9,none⟩=some (.chan (some ch))):
  ∀(u:List (Nat×Bool)) (gs fs:List Nat) (w:World) (s r:Nat) (vg vf u1 u4 u5 u6 u7 u8 u9 u10 u11 u12 u13 u14 u15 u16 u17 u18 u19 u20 u21 u22 u23 u24 u25 u26 u27 u28 u29 u30:Value),kK w0 w ch vg vf gs fs→w.heap[ch]? =some (.chan C (u.map df).toArray false s r false)→gs.length+fs.length+u.length≤1000→
   (∀w' m l B A,kK w0 w' ch m l B A→B=mE (gs++(u.filter fun x=>x.2 == true).map (·.1))→A=mE (fs++(u.filter fun x=>x.2 == false).map (·.1))→(∃s' r',w'.heap[ch]? =some (.chan C #[] false s' r' false))→R m l w')→
   LoneTo Tryz.prog (fun g' w'=>∃e fr,g'=G fr cs∧(∃m l,e= .returned (.tuple #[m,l])∧R m l w')∧fr.fn=78∧fr.leaving Tryz.prog w' e)
    (G ((base 78).at ⟨#[.pointer (some ⟨O,0,none⟩),u1,vg,vf,u4,u5,u6,u7,u8,u9,u10,u11,u12,u13,u14,u15,u16,u17,u18,u19,u20,u21,u22,u23,u24,u25,u26,u27,u28,u29,u30],[]⟩ [.code (aV Tryz.f78.body),.inLoop (aV Tryz.f78.body),.inBlock 0]) cs) w:=by
 intro u
 induction u with
 | nil=>
  intro gs fs w s r vg vf u1 u4 u5 u6 u7 u8 u9 u10 u11 u12 u13 u14 u15 u16 u17 u18 u19 u20 u21 u22 u23 u24 u25 u26 u27 u28 u29 u30 o q hz X;have hc:w.cell? ⟨O,9,none⟩=some (.chan (some ch)):=(World.cell?_of_block (o.chg.block O (eI i) a2)).trans i;simp only [List.map_nil] at q;refine LoneTo.goes (n:=30) ?_;simp only [aV,Tryz.f78]
  s_c stepG_block
  s_c stepG_seq
  s_reg
  s_op
  s_op
  s_op
  s_op
  s_c stepG_region_end
  s_c stepG_seq
  s_reg
  s_stop
  refine LoneTo.step (step_lone_select_default (c:=ch) (z:= .agg #[.int .i64 0,.bool false]) (stepG_comm (cases:=#[rcase ch (.agg #[.int .i64 0,.bool false])]) (blocking:=false) (shape:= .select) (w':=w) rfl rfl (by decide) (by simp [go_sem,rcase,Act.eval,execOp])) q) ?_;rw [Frame.finish_at]
  walk_nrm
  refine LoneTo.goes (n:=20) ?_
  s_op
  s_op
  s_c stepG_region_end
  s_c stepG_block
  s_cond false
  s_c stepG_seq
  s_reg
  s_op
  s_stop
  refine LoneTo.step (step_solo_go rfl (stepG_enter (f:=94) (args:=#[vg]) (w':=w) rfl rfl (by decide) (by simp [go_sem,Act.eval,execOp]))) ?_;refine yJ (yg _ vg gs w o.rg (by omega)) (fun _ _ h=>by cases h.1) (fun _ h=>by cases h.1) fun v I V=>?_;obtain ⟨_,r1,J⟩:=V;rw [Frame.finish_at]
  walk_nrm
  refine LoneTo.goes (n:=20) ?_
  s_c stepG_region_end
  s_c stepG_seq
  s_reg
  s_op
  s_stop
  refine LoneTo.step (step_solo_go rfl (stepG_enter (f:=94) (args:=#[vf]) (w':=I) rfl rfl (by decide) (by simp [go_sem,Act.eval,execOp]))) ?_;refine yJ (yg _ vf fs I (bC o.rf J (fun k e e2=>o.ap k e2 e)) (by omega)) (fun _ _ h=>by cases h.1) (fun _ h=>by cases h.1) fun v2 d W=>?_;obtain ⟨_,r2,T⟩:=W;have a1:=o.chg.size;have ng:∀k,k < w0.heap.size→¬vg.ownBlock=some k:=fun k hk e=>by have:=(o.rg.lt k e).1;omega
  have nf:∀k,k < w0.heap.size→¬vf.ownBlock=some k:=fun k hk e=>by have:=(o.rf.lt k e).1;omega
  have a4:=J.size
  have Y:R vg vf d:=by
   refine X d vg vf (mE gs) (mE fs) ⟨⟨Nat.le_trans a1 (Nat.le_trans a4 T.size),fun k hk hn=>(T.block k (by omega) (nf k hk)).trans ((J.block k (by omega) (ng k hk)).trans (o.chg.block k hk hn)),(o.chg.still.trans J.still).trans T.still⟩,?_,?_,o.ap⟩ (by simp) (by simp) ⟨s,r,?_⟩
   ·rw [show (mE gs).length=gs.length from List.length_mergeSort _];exact bC r1 T (fun k e e2=>o.ap k e e2)
   ·rw [show (mE fs).length=fs.length from List.length_mergeSort _];exact r2
   ·rw [T.block ch (by omega) (nf ch a),J.block ch (by omega) (ng ch a)];simpa using q
  clear X o q hc J T r1 r2;rw [Frame.finish_at]
  walk_nrm
  refine LoneTo.goes (n:=20) ?_
  s_c stepG_region_end
  s_c stepG_seq
  s_reg
  s_op
  s_op
  s_op
  s_op
  s_c stepG_region_end
  s_c stepG_ret'
  s_stop
  exact LoneTo.done ⟨.returned (.tuple #[vg,vf]),_,rfl,⟨vg,vf,rfl,Y⟩,rfl,rfl,rfl,rfl,_,Tryz.func78,by simp [results,Tryz.f78,Frame.at]⟩
 | cons x u ih=>
  intro gs fs w s r vg vf u1 u4 u5 u6 u7 u8 u9 u10 u11 u12 u13 u14 u15 u16 u17 u18 u19 u20 u21 u22 u23 u24 u25 u26 u27 u28 u29 u30 o q hz X;have hc:w.cell? ⟨O,9,none⟩=some (.chan (some ch)):=(World.cell?_of_block (o.chg.block O (eI i) a2)).trans i;obtain ⟨P,b⟩:=x;have Z:((((P,b)::u).map df).toArray).extract 1 ((((P,b)::u).map df).toArray).size=(u.map df).toArray:=by simp [List.take_of_length_le]
  have a0:((((P,b)::u).map df).toArray).getD 0 undef= .agg #[.int .i64 (P:Int),.bool b]:=by simp [df]
  have a1:=o.chg.size;have K:ch < w.heap.size:=by omega
  simp only [List.length_cons] at hz;refine LoneTo.goes (n:=30) ?_;simp only [aV,Tryz.f78]
  s_c stepG_block
  s_c stepG_seq
  s_reg
  s_op
  s_op
  s_op
  s_op
  s_c stepG_region_end
  s_c stepG_seq
  s_reg
  s_stop
  refine LoneTo.step (step_lone_select_recv_buf (c:=ch) (z:= .agg #[.int .i64 0,.bool false]) (stepG_comm (cases:=#[rcase ch (.agg #[.int .i64 0,.bool false])]) (blocking:=false) (shape:= .select) (w':=w) rfl rfl (by decide) (by simp [go_sem,rcase,Act.eval,execOp])) q (by simp)) ?_;rw [Z,a0];rw [Frame.finish_at]
  walk_nrm
  have E:=heap_setChan w ch C (u.map df).toArray false s (r+1) false K;have J:aH (fun j=>j=ch) w (w.setChan ch C (u.map df).toArray false s (r+1) false):=⟨by simp [World.setChan],fun j hj hn=>by simp [World.setChan,Array.getElem?_setIfInBounds_ne (Ne.symm hn)],⟨rfl,rfl,rfl⟩⟩
  obtain ⟨I,a3⟩:∃I,w.setChan ch C (u.map df).toArray false s (r+1) false=I:=⟨_,rfl⟩;rw [a3] at E J ⊢;have S1:=o.keep J a;clear a3 hc q Z a0 K o J;refine LoneTo.goes (n:=40) ?_
  s_op
  s_op
  s_c stepG_region_end
  s_c stepG_block
  s_cond true
  s_c stepG_seq
  s_reg
  s_op
  s_op
  s_op
  s_c stepG_region_end
  s_c stepG_seq
  have X2:=heap_alloc_new I (.cells #[.int .i64 (P:Int),.bool b] 201);obtain ⟨d,N⟩:∃d:World,I.alloc (.cells #[.int .i64 (P:Int),.bool b] 201)=d:=⟨_,rfl⟩;have B2:Below I.heap.size I d:=by rw [←N];exact (Below.refl _ _).alloc (Nat.le_refl _) _
  rw [N] at X2 ⊢;have S2:=S1.keep (aH.below B2) a;have y:=ae B2 E;have p0:d.cell? ⟨I.heap.size,0,none⟩=some (.int .i64 (P:Int)):=by rw [Lib.cell_of_heap X2];rfl
  have p1:d.cell? ⟨I.heap.size,1,none⟩=some (.bool b):=by rw [Lib.cell_of_heap X2];rfl
  clear S1 X2 N E
  s_reg
  s_op
  s_op
  s_c stepG_region_end
  cases b with
  | true=>
   s_cond true
   s_reg
   s_op
   s_op
   s_op
   s_op
   s_stop
   have M:=heap_alloc_new d (.cells #[.int .i64 (P:Int)] 3);obtain ⟨Q,t⟩:∃Q:World,d.alloc (.cells #[.int .i64 (P:Int)] 3)=Q:=⟨_,rfl⟩;have L:Below d.heap.size d Q:=by rw [←t];exact (Below.refl _ _).alloc (Nat.le_refl _) _
   rw [t] at M ⊢;obtain ⟨g,U,S,H,S4,D⟩:=(S2.keep (aH.below L) a).plus a P d.heap.size M (by omega);have F:=D.trans (ae L y);refine LoneTo.step (step_solo_go rfl (stepG_value (v:= .slice (some ⟨g,0,none⟩) (gs.length+1) U) (w':=S) rfl rfl (by decide) (rE (.tmp 21) (.tmp 24) 28 rfl vg (.slice (some ⟨d.heap.size,0,none⟩) 1 1) _ S rfl rfl H))) ?_
   walk_nrm
   have p:=ih (gs++[P]) fs S s (r+1) (.slice (some ⟨g,0,none⟩) (gs.length+1) U) vf;simp only [aV,Tryz.f78] at p;clear ih H M t L S2 y p0 p1 D B2;refine LoneTo.goes (n:=20) ?_
   s_op
   s_c stepG_region_end
   s_c stepG_inBlock
   s_c stepG_inBlock
   s_c stepG_inLoop
   s_stop
   exact p _ _ _ _ _ _ _ _ _ _ _ _ _ _ _ _ _ _ _ _ _ _ _ _ _ _ _ _ S4 F (by rw [List.length_append];simp only [List.length_cons,List.length_nil];omega) (fun w' m l B A V W h3 h4=>X w' m l B A V (by rw [W];simp) (by rw [h3];simp) h4)
  | false=>
   s_cond false
   s_reg
   s_op
   s_op
   s_op
   s_op
   s_stop
   have M:=heap_alloc_new d (.cells #[.int .i64 (P:Int)] 3);obtain ⟨Q,t⟩:∃Q:World,d.alloc (.cells #[.int .i64 (P:Int)] 3)=Q:=⟨_,rfl⟩;have L:Below d.heap.size d Q:=by rw [←t];exact (Below.refl _ _).alloc (Nat.le_refl _) _
   rw [t] at M ⊢;obtain ⟨g,U,S,H,S4,D⟩:=(S2.keep (aH.below L) a).swap.plus a P d.heap.size M (by omega);have F:=D.trans (ae L y);refine LoneTo.step (step_solo_go rfl (stepG_value (v:= .slice (some ⟨g,0,none⟩) (fs.length+1) U) (w':=S) rfl rfl (by decide) (rE (.tmp 26) (.tmp 29) 28 rfl vf (.slice (some ⟨d.heap.size,0,none⟩) 1 1) _ S rfl rfl H))) ?_
   walk_nrm
   have p:=ih gs (fs++[P]) S s (r+1) vg (.slice (some ⟨g,0,none⟩) (fs.length+1) U);simp only [aV,Tryz.f78] at p;clear ih H M t L S2 y p0 p1 D B2;refine LoneTo.goes (n:=20) ?_
   s_op
   s_c stepG_region_end
   s_c stepG_inBlock
   s_c stepG_inBlock
   s_c stepG_inLoop
   s_stop
   exact p _ _ _ _ _ _ _ _ _ _ _ _ _ _ _ _ _ _ _ _ _ _ _ _ _ _ _ _ S4.swap F (by rw [List.length_append];simp only [List.length_cons,List.length_nil];omega) (fun w' m l B A V W h3 h4=>X w' m l B A V (by rw [W];simp) (by rw [h3];simp) h4)
def Gd (_tb ch cap:Nat) (t:aQ) (w:World) (e:Ending) (w':World):Prop:=
 ∃vg vf,e= .returned (.tuple #[vg,vf])∧kK w w' ch vg vf (t.took true) (t.took false)∧∃s' r',w'.heap[ch]? =some (.chan cap #[] false s' r' false)
theorem qz (c ch a s r:Nat) (t:aQ) (w:World) (j:c≠ch) (b:w.cell? ⟨c,9,none⟩=some (.chan (some ch))) (d:w.heap[ch]? =some (.chan a (t.came.map df).toArray false s r false)) (E:t.came.length≤1000):
  Calls Tryz.prog 78 #[.pointer (some ⟨c,0,none⟩)] w (Gd c ch a t w):=by
 refine calls_of_loneTo (fun q=>?_) (fun w' h=>by obtain ⟨_,_,h,_⟩:=h;cases h)
 have e:Frame.enter Tryz.prog 78 #[.pointer (some ⟨c,0,none⟩)] .normal=(base 78).at ⟨#[.pointer (some ⟨c,0,none⟩),undef,undef,undef,undef,undef,undef,undef,undef,undef,undef,undef,undef,undef,undef,undef,undef,undef,undef,undef,undef,undef,undef,undef,undef,undef,undef,undef,undef,undef,undef],[]⟩ [.code (Tryz.f78.body.getD .skip)]:=by
  simp [Frame.enter,Frame.at,Tryz.func78,base,Tryz.f78]
 rw [e];have f:=EF c ch a w q (fun vg vf w'=>kK w w' ch vg vf (t.took true) (t.took false)∧∃G F,w'.heap[ch]? =some (.chan a #[] false G F false)) (ah d) j b t.came [] [] w s r (.slice none 0 0) (.slice none 0 0);simp only [aV,Tryz.f78] at f;clear e;refine LoneTo.goes (n:=20) ?_;simp only [Tryz.f78,Option.getD_some]
 s_c stepG_seq
 s_reg
 s_op
 s_op
 s_c stepG_region_end
 s_c stepG_block
 s_c stepG_loop
 s_stop
 obtain ⟨y,w',z,e,x,A,⟨vg,vf,B,C⟩,D⟩:=f _ _ _ _ _ _ _ _ _ _ _ _ _ _ _ _ _ _ _ _ _ _ _ _ _ _ _ _ ⟨aH.refl _ _,World.ownsRow_nil _ _ _ _,World.ownsRow_nil _ _ _ _,fun k e=>by cases e⟩ d (by simpa using E) (fun w' I H i g l m o p=>⟨by
  have u:i=t.took true:=m;have v:g=t.took false:=o;rw [←u,←v]
  exact l,p⟩)
 exact ⟨y,w',z,e,x,A,⟨vg,vf,B,C⟩,D⟩
structure oi [K:Kn] (w:World) (tb ch pp pb mb:Nat) (q:Nat→Nat) (vr va vu vl:Value) (frm body:List UInt8) (cap:Nat) (S:bp) (recs:List UInt8) (t:aQ) (ws:List Int) (vW:Value) (n:Int):Prop where
 talk:bR w tb ch pp pb va vu vl frm body cap false t
 bag:fv w pb mb q vr S recs
 sok:oK (S,recs)
 live:t.i∈S.live
 ok:dC (S.stayOf t.i) t
 due:0≤(bV S t.i).2∧(bV S t.i).2≤1000000000000
 wai:w.cell? ⟨pp,6,none⟩=some vW
 row:bg w vW ws.length 1 (ib ws)
 wb:1≤ws.length∧ws.length≤100∧∀x∈ws,1≤x∧x≤1000000000
 ml:w.cell? ⟨0,0,none⟩=some (.int .i64 n)
 apart:∀k,lA tb ch va vl k→¬an w pb mb q vr S k
 env:∀k,(k=pp∨k=0∨vW.ownBlock=some k)→k < w.heap.size∧¬an w pb mb q vr S k∧¬lA tb ch va vl k
def cV (S:bp) (recs:List UInt8) (t:aQ):bp×List UInt8:=kR (S,recs) t.i (t.took true) (t.took false)
def nt [Kn] (S:bp) (t:aQ) (ws:List Int):Int×Int:=(S.time+kH ws (bV S t.i).2,(bV S t.i).2+1)
def lD [K:Kn] (tb ch pp pb mb:Nat) (q:Nat→Nat) (vr va vu vl:Value) (frm body:List UInt8) (S:bp) (recs:List UInt8) (t:aQ) (ws:List Int) (w w':World):Prop:=
 w'.heap[tb]? =some (.cells (fo pp pb ch va vu vl frm body true t) 153 (0,0))∧(∃q' vr',@fv (iQ K (cV S recs t).1 t.i (nt S t ws)) w' pb mb q' vr' (cV S recs t).1 (cV S recs t).2∧∀k,an w' pb mb q' vr' (cV S recs t).1 k→an w pb mb q vr S k∨w.heap.size≤k)∧aH (fun k=>lA tb ch va vl k∨an w pb mb q vr S k) w w'
section
variable [K:Kn] {w:World} {tb ch pp pb mb:Nat} {q:Nat→Nat} {vr va vu vl:Value} {frm body:List UInt8} {cap:Nat} {S:bp} {recs:List UInt8} {t:aQ} {ws:List Int} {vW:Value} {n:Int}
theorem oi.over (h:oi w tb ch pp pb mb q vr va vu vl frm body cap S recs t ws vW n) {a:World} (d:w.setCell ⟨tb,10,none⟩ (.bool true)=a):
  a.heap[tb]? =some (.cells (fo pp pb ch va vu vl frm body true t) 153 (0,0))∧aH (fun k=>k=tb) w a∧(∃s r,a.heap[ch]? =some (.chan cap (t.came.map df).toArray false s r false))∧a.cell? ⟨tb,9,none⟩=some (.chan (some ch)):=by
 have b:aL tb w a:=by rw [←d];exact (aL.refl _ _).setCell _
 have c:a.heap[tb]? =some (.cells (fo pp pb ch va vu vl frm body true t) 153 (0,0)):=by rw [←d];exact heap_setCell_same w tb 10 _ _ (.bool true) h.talk.blk
 obtain ⟨s,r,e⟩:=h.talk.chan;exact ⟨c,aH.same b,⟨s,r,aP b e (Ne.symm h.talk.tc)⟩,by rw [Lib.cell_of_heap c];rfl⟩
theorem oi.settle (h:oi w tb ch pp pb mb q vr va vu vl frm body cap S recs t ws vW n) {A z W:World} {D C:Value} (x1:A.heap[tb]? =some (.cells (fo pp pb ch va vu vl frm body true t) 153 (0,0))) (J:aH (fun k=>k=tb) w A) (j:kK A z ch D C (t.took true) (t.took false)) (o:Below z.heap.size z W):
  W.heap[tb]? =some (.cells (fo pp pb ch va vu vl frm body true t) 153 (0,0))∧W.cell? ⟨pp,6,none⟩=some vW∧Calls Tryz.prog 79 #[.pointer (some ⟨pb,0,none⟩),.int .i64 ((t.i:Int)+1),D,C,vW] W fun e w'=>e= .returned (.tuple #[])∧lD tb ch pp pb mb q vr va vu vl frm body S recs t ws w w':=by
 have i:aH (fun k=>lA tb ch va vl k) w W:=((J.mono (fun _ _ e=> .inl e)).trans j.chg (fun _ _ e=> .inr (.inl e))).trans (aH.below o:aH (fun _=>False) z W) (fun _ _ e=>e.elim);have Y:tb < w.heap.size:=ah h.talk.blk;have T:ch < w.heap.size:=by obtain ⟨s,r,R⟩:=h.talk.chan;exact ah R
 have U:=J.size;have V:=j.chg.size;have X:=o.size;have G:W.heap[tb]? =some (.cells (fo pp pb ch va vu vl frm body true t) 153 (0,0)):=ae o (j.chg.some_ x1 (fun e=>h.talk.tc e));obtain ⟨M,m⟩:=h.bag.chg i (fun k e O=>h.apart k O e);have d:∀(a:Addr),(a.block=pp∨a.block=0∨vW.ownBlock=some a.block)→W.cell? a=w.cell? a:=fun a e=>World.cell?_of_block (i.block a.block (h.env _ e).1 (h.env _ e).2.2);have hL:(S.stayOf t.i).length≤10:=dk h.sok.ok t.i;have f:∀b,∀p∈t.took b,p∈(S.stayOf t.i).map (·.1):=fun b p B=>h.ok.sub p (by unfold aQ.act;exact List.mem_append.2 (.inr (ob B)));have c:∀b,∀p∈t.took b,p≤255:=fun b p B=>kE h.sok.ok t.i p (f b p B);have u:∀b,(t.took b).length≤100:=fun b=>by have:=kF h.ok b;omega
 have y:∀{v:Value} {l:List Nat},z.ownsRow A.heap.size 3 1 v l.length (aZ l)→Kc W pb mb q vr S v:=fun I g H=>⟨by have:=(I.lt g H).2;omega,fun e=>by have:=an.lt h.bag (m g e);have:=(I.lt g H).1;omega⟩
 refine ⟨G,(d ⟨pp,6,none⟩ (.inl rfl)).trans h.wai,?_⟩;refine (DH pb mb q vr D C vW S recs t.i (t.took true) (t.took false) ws n W M h.sok h.live (aF (ep j.rg fun _ _ e _=>ae o e)) (aF (ep j.rf fun _ _ e _=>ae o e)) (h.row.chg i (fun g e=>(h.env g (.inr (.inr e))).2.2)) (y j.rf) (fun g e=>⟨Nat.lt_of_lt_of_le (h.env g (.inr (.inr e))).1 i.size,fun x=>(h.env g (.inr (.inr e))).2.1 (m g x)⟩) ((d ⟨0,0,none⟩ (.inr (.inl rfl))).trans h.ml) (fun x=>(h.env _ (.inr (.inl rfl))).2.1 (m _ x)) (u _) (u _) (c _) (c _) (jg (iu h.ok _)) (jg (iu h.ok _)) (f _) (f _) (fun p P Q=>mn h.ok P Q) h.wb.1 h.wb.2.1 h.wb.2.2 h.due.1 h.due.2).mono ?_;rintro e w3 ⟨rfl,Z,E,N,F,L⟩;refine ⟨rfl,F.some_ G (fun e=>h.apart tb (.inl rfl) (m tb e)),⟨Z,E,N,fun k e=>(L k e).elim (fun e=> .inl (m k e)) (fun e=> .inr (Nat.le_trans i.size e))⟩,(i.mono (fun _ _ e=> .inl e)).trans F (fun k _ e=> .inr (m k e))⟩
theorem BS (h:oi w tb ch pp pb mb q vr va vu vl frm body cap S recs t ws vW n):
  Calls Tryz.prog 46 #[.pointer (some ⟨tb,0,none⟩)] w fun e F=>e= .returned (.tuple #[])∧lD tb ch pp pb mb q vr va vu vl frm body S recs t ws w F:=by
 have l:w.cell? ⟨tb,10,none⟩=some (.bool false):=h.talk.cell 10;have m:=h.talk.frozen 10;obtain ⟨o,a⟩:∃o:World,w.setCell ⟨tb,10,none⟩ (.bool true)=o:=⟨_,rfl⟩;obtain ⟨A,x,⟨s,r,y⟩,z⟩:=h.over a
 have v:t.came.length≤1000:=by
  have p:=h.ok.room;have O:(S.stayOf t.i).length≤10:=dk h.sok.ok t.i;unfold aQ.act at p;rw [List.length_append,List.length_map] at p;omega
 have i:=Lib.hid (qz tb ch cap s r t o h.talk.tc z y v);have B:=Lib.hid h;have k:=Lib.hid A;have f:=Lib.hid x;have j:=Lib.hid a;clear h A x y z a v;go_enter Tryz.func46,Tryz.ntmps46;go_wp2_with fail
 rw [j.out];refine i.out.mono ?_;rintro e c ⟨R,Q,rfl,b,_⟩;obtain ⟨d,P,g⟩:=B.out.settle k.out f.out b ((Below.refl _ c).drew);have g:=Lib.hid g;have L:c.drew.cell? ⟨tb,0,none⟩=some (.pointer (some ⟨pp,0,none⟩)):=by rw [Lib.cell_of_heap d];rfl
 have M:c.drew.cell? ⟨tb,1,none⟩=some (.pointer (some ⟨pb,0,none⟩)):=by rw [Lib.cell_of_heap d];rfl
 have N:c.drew.cell? ⟨tb,2,none⟩=some (.int .i64 ((t.i:Int)+1)):=by rw [Lib.cell_of_heap d];rfl
 obtain ⟨H,J,E⟩:=aE (aF b.rg);obtain ⟨G,I,D⟩:=aE (aF b.rf);subst E D;clear d b l m;go_wp2_with fail
 go_region_law (first
  | (go_simp;go_at_call 79;refine g.out.mono ?_;rintro e T ⟨rfl,u⟩;have C:=Lib.hid u;clear u;dsimp only))
 all_goals
  go_wp2_with fail
  refine bodyPost_end (results_none rfl _ _ _) rfl ?_;exact ⟨rfl,C.out⟩
theorem FZ (u:FrameMode) (h:oi w tb ch pp pb mb q vr va vu vl frm body cap S recs t ws vW n):
  CallsD Tryz.prog 46 #[.pointer (some ⟨tb,0,none⟩)] u w fun e u' G=>u'=u∧e= .returned (.tuple #[])∧lD tb ch pp pb mb q vr va vu vl frm body S recs t ws w G:=by
 have l:w.cell? ⟨tb,10,none⟩=some (.bool false):=h.talk.cell 10;have m:=h.talk.frozen 10;obtain ⟨o,a⟩:∃o:World,w.setCell ⟨tb,10,none⟩ (.bool true)=o:=⟨_,rfl⟩;obtain ⟨B,y,⟨s,r,z⟩,A⟩:=h.over a
 have x:t.came.length≤1000:=by
  have p:=h.ok.room;have P:(S.stayOf t.i).length≤10:=dk h.sok.ok t.i;unfold aQ.act at p;rw [List.length_append,List.length_map] at p;omega
 have i:=Lib.hid (qz tb ch cap s r t o h.talk.tc A z x);have C:=Lib.hid h;have k:=Lib.hid B;have f:=Lib.hid y;have j:=Lib.hid a;clear h B y z A a x;go_enter_d Tryz.func46,Tryz.ntmps46
 go_wp2_with fail
 rw [j.out];refine i.out.mono ?_;rintro e c ⟨T,R,rfl,b,_⟩;obtain ⟨d,Q,g⟩:=C.out.settle k.out f.out b ((Below.refl _ c).drew);have g:=Lib.hid g;have M:c.drew.cell? ⟨tb,0,none⟩=some (.pointer (some ⟨pp,0,none⟩)):=by rw [Lib.cell_of_heap d];rfl
 have N:c.drew.cell? ⟨tb,1,none⟩=some (.pointer (some ⟨pb,0,none⟩)):=by rw [Lib.cell_of_heap d];rfl
 have O:c.drew.cell? ⟨tb,2,none⟩=some (.int .i64 ((t.i:Int)+1)):=by rw [Lib.cell_of_heap d];rfl
 obtain ⟨I,L,F⟩:=aE (aF b.rg);obtain ⟨H,J,E⟩:=aE (aF b.rf);subst F E;clear d b l m;go_wp2_with fail
 go_region_law (first
  | (go_simp;go_at_call 79;refine g.out.mono ?_;rintro e U ⟨rfl,v⟩;have D:=Lib.hid v;clear v;dsimp only))
 all_goals
  go_wp2_with fail
  go_end0
  exact ⟨rfl,D.out⟩
end
theorem zD (tb:Nat) (b:Bool) (w:World) (h:w.cell? ⟨tb,10,none⟩=some (.bool b)):Calls Tryz.prog 77 #[.pointer (some ⟨tb,0,none⟩)] w fun e a=>e= .returned (.bool b)∧w=a:=by
 go_enter Tryz.func77,Tryz.ntmps77;go_wp2_with fail
 go_ret;exact ⟨rfl,rfl⟩
structure Gg (w:World) (pp cap:Nat) (host frm body sent:List UInt8) (t:aQ):Prop where
 hh:w.cell? ⟨pp,0,none⟩=some (.string (bs host))
 hl:host.length≤1000
 fl:frm.length≤1000
 sl:sent.length≤10000000000000
 dots:Calls Tryz.prog 130 #[.string (bs body)] w fun e w'=>e= .returned (.string (bs sent))∧Below w.heap.size w w'
 names:∀x∈t.una,x.2.length≤1000
 room:t.came.length+t.una.length≤cap∧t.came.length+t.wil.length≤cap
 nu:t.una.length≤1000∧t.wil.length≤999
 una:t.said=3→t.una≠[]
section
variable {w:World} {tb ch pp pb:Nat} {va vu vl:Value} {frm body:List UInt8} {cap:Nat} {t:aQ}
theorem J1 (h:bR w tb ch pp pb va vu vl frm body cap false t) (b c:List UInt8) (d:Gg w pp cap b frm body c t) (r:t.said < 6) (f:Nat) (A:f≤100000):
  Calls Tryz.prog 57 #[.pointer (some ⟨tb,0,none⟩),.int .i64 (f:Int)] w (fQ tb ch pp pb va vl frm body cap w (t.hear b frm c (f / 100))):=by
 have y:w.cell? ⟨tb,6,none⟩=some (.int .i64 (t.said:Int)):=h.cell 6;obtain ⟨a,u⟩:∃a:Nat,f / 100=a:=⟨_,rfl⟩;have B:Int.tdiv (f:Int) 100=(a:Int):=by rw [←u];rfl
 have z:IntKind.i64.wrap (a:Int)=(a:Int):=by rw [IntKind.wrap_i64];omega
 rw [u];have v:t.said=0∨t.said=1∨t.said=2∨t.said=3∨t.said=4∨t.said=5:=by omega
 have k:Hid (t.said=0→_):=Lib.hid (fun e=>qN h b c d.hh d.hl e a);have l:Hid (t.said=1→_):=Lib.hid (fun e=>wH h b c d.fl e a);have m:Hid (t.said=2→_):=Lib.hid (fun e=>ui h b c d.names d.nu.1 (by have:=d.nu.2;omega) d.room.1 e a);have n:Hid (t.said=3→_):=Lib.hid (fun e=>pP h b c d.names d.nu.1 d.nu.2 d.room.1 e (d.una e) a);have o:Hid (t.said=4→_):=Lib.hid (fun e=>y9 h b c (by have:=d.nu.2;omega) d.room.2 e d.sl d.dots a);have p:Hid (t.said=5→_):=Lib.hid (fun e=>yZ h b c (by have:=d.nu.2;omega) d.room.2 e a);obtain ⟨X,x⟩:∃X,t.hear b frm c a=X:=⟨_,rfl⟩;rw [x] at k l m n o p ⊢;clear h d u x
 rcases v with e | e | e | e | e | e
 all_goals
  have q:=Lib.hid e;rw [e] at y
 ·have i:=Lib.hid (k.out q.out);clear k l m n o p e r;go_enter_defers Tryz.func57,Tryz.ntmps57
  go_wp2_with fail
  refine i.out.mono ?_;rintro e s ⟨rfl,g⟩;have j:=Lib.hid g;clear g;go_wp2_with fail
  exact ⟨.string (bs X.2),by simp [results,Tryz.results57,go_sem],rfl,j.out⟩
 ·have i:=Lib.hid (l.out q.out);clear k l m n o p e r;go_enter_defers Tryz.func57,Tryz.ntmps57
  go_wp2_with fail
  refine i.out.mono ?_;rintro e s ⟨rfl,g⟩;have j:=Lib.hid g;clear g;go_wp2_with fail
  exact ⟨.string (bs X.2),by simp [results,Tryz.results57,go_sem],rfl,j.out⟩
 ·have i:=Lib.hid (m.out q.out);clear k l m n o p e r;go_enter_defers Tryz.func57,Tryz.ntmps57
  go_wp2_with fail
  refine i.out.mono ?_;rintro e s ⟨rfl,g⟩;have j:=Lib.hid g;clear g;go_wp2_with fail
  exact ⟨.string (bs X.2),by simp [results,Tryz.results57,go_sem],rfl,j.out⟩
 ·have i:=Lib.hid (n.out q.out);clear k l m n o p e r;go_enter_defers Tryz.func57,Tryz.ntmps57
  go_wp2_with fail
  refine i.out.mono ?_;rintro e s ⟨rfl,g⟩;have j:=Lib.hid g;clear g;go_wp2_with fail
  exact ⟨.string (bs X.2),by simp [results,Tryz.results57,go_sem],rfl,j.out⟩
 ·have i:=Lib.hid (o.out q.out);clear k l m n o p e r;go_enter_defers Tryz.func57,Tryz.ntmps57
  go_wp2_with fail
  refine i.out.mono ?_;rintro e s ⟨rfl,g⟩;have j:=Lib.hid g;clear g;go_wp2_with fail
  exact ⟨.string (bs X.2),by simp [results,Tryz.results57,go_sem],rfl,j.out⟩
 ·have i:=Lib.hid (p.out q.out);clear k l m n o p e r;go_enter_defers Tryz.func57,Tryz.ntmps57
  go_wp2_with fail
  refine i.out.mono ?_;rintro e s ⟨rfl,g⟩;have j:=Lib.hid g;clear g;go_wp2_with fail
  exact ⟨.string (bs X.2),by simp [results,Tryz.results57,go_sem],rfl,j.out⟩
theorem GX [K:Kn] {d:Nat} {q:Nat→Nat} {g:Value} {S:bp} {b:List UInt8} {i:List Int} {m:Value} {n:Int} (h:oi w tb ch pp pb d q g va vu vl frm body cap S b t i m n) (c:t.said=6) (a:Nat) (p:a≤100000):
  Calls Tryz.prog 57 #[.pointer (some ⟨tb,0,none⟩),.int .i64 (a:Int)] w fun e o=>e= .returned (.string ⟨#[]⟩)∧lD tb ch pp pb d q g va vu vl frm body S b t i w o:=by
 have k:w.cell? ⟨tb,6,none⟩=some (.int .i64 (t.said:Int)):=h.talk.cell 6;rw [c] at k;have j:=Lib.hid (fun u=>FZ u h);clear h c;go_enter_defers Tryz.func57,Tryz.ntmps57
 go_wp2_with fail
 refine leaves_cons (f:=46) (args:=#[.pointer (some ⟨tb,0,none⟩)]) (by simp) (by simp [go_sem]) ?_;refine (j.out .returning).mono ?_;rintro e u' r ⟨rfl,rfl,l⟩;exact ⟨.string ⟨#[]⟩,by simp [results,Tryz.results57,go_sem],rfl,l⟩
end
end Go.Proofs.YtofpegbpgkkgkaaGreatDoor
