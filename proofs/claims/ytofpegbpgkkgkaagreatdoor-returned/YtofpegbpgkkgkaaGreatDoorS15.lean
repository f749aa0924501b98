import Derived.Test.YtofpegbpgkkgkaaGreatDoorS14
namespace Go.Proofs.YtofpegbpgkkgkaaGreatDoor
set_option maxHeartbeats 8000000
set_option maxRecDepth 1000000
open Go.RowKit
def JE (b:Bool) (w:World) (e:Ending) (w':World):Prop:=e= .returned (.bool b)∧∃n,w'=w.drewN n
theorem JE.mk {b:Bool} {w:World} {e:Ending} {a:World} (c:Bool) (f:e= .returned (.bool c)) (d:b=c) (n:Nat) (g:a=w.drewN n):JE b w e a:=⟨by rw [f,d],n,g⟩
theorem aH.but {p:Nat} {w a:World} (h:sc p w a):aH (fun k=>k=p) w a:=⟨h.size,fun k b c=>h.block k b c,h.still⟩
theorem mM (l L f:Nat) (q:Nat→Nat) (vr Q:Value) (S:bp) (K:Nat) (n:List Nat) (w:World) (h:bh l w L f q vr S) (a6:S.Ok) (hp:bg w Q n.length 1 (aZ n)) (N:K∈S.live) (a7:n.length≤255) (hn:S.items.length≤4294967295):
  Calls Tryz.prog 169 #[.pointer (some ⟨L,0,none⟩),.agg #[.int .i64 ((K:Int)+1),Q]] w fun e w'=>∃vn,e= .returned vn∧w'.ownsRow w.heap.size 9 1 vn (dx (S.stayOf K) n).length (cm (dx (S.stayOf K) n))∧bh l w' L f q vr (S.outs K n)∧aH (fun k=>k=f∨k=q K) w w'∧(∀C,w.heap[q K]? =some (.cells C 158 (0,0))→∃m,w'.heap[q K]? =some (.cells m 158 (0,0))∧m[4]? =C[4]? ∧m[5]? =C[5]? ∧∀k,(m.getD 2 undef).ownBlock=some k→w.heap.size≤k):=by
 have b3:=h.le;obtain ⟨j,D⟩:∃j:World,w.alloc (.cells #[.int .i64 ((K:Int)+1),Q] 193)=j:=⟨_,rfl⟩;have B0:Below w.heap.size w j:=by rw [←D];exact (Below.refl _ _).alloc (Nat.le_refl _) _
 have R:bh l j L f q vr S:=h.keep B0;have W:j.heap[w.heap.size]? =some (.cells #[.int .i64 ((K:Int)+1),Q] 193 (0,0)):=by rw [←D];exact heap_alloc_new w _
 have c3:j.drew.cell? ⟨L,3,none⟩=some (.map (some f)):=by show j.cell? _=_;rw [Lib.cell_of_heap R.bag];rfl
 have e0:j.drew.cell? ⟨w.heap.size,0,none⟩=some (.int .i64 ((K:Int)+1)):=by show j.cell? _=_;rw [Lib.cell_of_heap W];rfl
 have e1:j.drew.cell? ⟨w.heap.size,1,none⟩=some Q:=by show j.cell? _=_;rw [Lib.cell_of_heap W];rfl
 have u:∀i∈S.live,i < 4294967296:=fun i hi=>by have:=bq hi;omega
 have hM:gh j.drew f q S.live S.items.length:=R.map;have b2:=bq N
 have b4:(Instr.lookup 115 (.map (some f)) (.int .i64 ((K:Int)+1)) false).run Tryz.prog j.drew= .ok (.pointer (some ⟨q K,0,none⟩)) j.drew:=
  ig (t:=115) (e:=122) fU Tryz.underlying115 hM u K (by omega) N false
 obtain ⟨a8,v,x,O,hr⟩:=R.mail K N;have a0:=Lib.hid (oA l (q K) _ _ _ v Q (S.stayOf K) n x j.drew O a8 hr (hp.below B0.drew) (by have:=dk a6 K;omega) a7);have B:=Lib.hid R;have o:=Lib.hid B0;have a2:=Lib.hid D;have a3:=Lib.hid W;have U:=Lib.hid O;have HL:=Lib.hid u;have a5:q K≠w.heap.size:=fun e=>by unfold dL at O;rw [e,W] at O;simp at O
 clear O hr R W B0 hM u hp h D;go_enter Tryz.func169,Tryz.ntmps169;go_wp2_with fail
 rw [a2.out];go_region
 all_goals
  go_wp2_with fail
  refine a0.out.mono ?_;rintro e d ⟨vn,vs,rfl,E,p,z,r⟩
  obtain ⟨gs,cs,es⟩:∃a c,vs= .slice a (bM (S.stayOf K) n).length c:=by
   rcases z.2 with ⟨e,h0⟩ | ⟨g,a4,X,e,_⟩
   ·exact ⟨_,_,by rw [h0];exact e⟩
   ·exact ⟨_,_,e⟩
  subst es;have b:sc (q K) j d:=Aj r;have f2:d.cell? ⟨q K,2,none⟩=some (.slice gs (bM (S.stayOf K) n).length cs):=by rw [Lib.cell_of_heap p];rfl
  have G:Hid (aH (fun k=>k=f∨k=q K) w d):=Lib.hid ((aH.below o.out).trans (aH.but b) (fun _ _ e=> .inr e))
  have H:Hid (∀C,w.heap[q K]? =some (.cells C 158 (0,0))→∃m,d.heap[q K]? =some (.cells m 158 (0,0))∧m[4]? =C[4]? ∧m[5]? =C[5]? ∧∀k,(m.getD 2 undef).ownBlock=some k→w.heap.size≤k):=Lib.hid (by
   intro C hC;have M:j.heap[q K]? =_:=U.out;rw [ae o.out hC] at M;injection M with M;injection M with M;subst M;refine ⟨_,p,rfl,rfl,fun k e=>?_⟩;have Y:=o.out.size
   rcases z.2 with ⟨e1,_⟩ | ⟨g,a4,X,e1,hg,_⟩
   ·have e:(Value.slice gs (bM (S.stayOf K) n).length cs).ownBlock=some k:=e;rw [e1] at e;simp [Value.ownBlock] at e
   ·have e:(Value.slice gs (bM (S.stayOf K) n).length cs).ownBlock=some k:=e;rw [e1] at e;have e:g=k:=by simpa [Value.ownBlock] using e
    have hg:j.heap.size≤g:=hg
    omega)
  by_cases Y:bM (S.stayOf K) n=[]
  ·obtain ⟨Z,A⟩:=B.out.emptied N b Y;have y:(bM (S.stayOf K) n).length=0:=by rw [Y];rfl
   have s:∀P:TypeId,(Builtin.delete_ #[115,3] P #[.map (some f),.int .i64 ((K:Int)+1)]).run Tryz.prog d.drew= .ok (.tuple #[]) (ChangeMaps.setBlock d.drew f (.map (cO q (S.live.filter fun i=>decide (i≠K))) S.items.length)):=fun P=>
    Bg (t:=115) (e:=122) fU Tryz.underlying115 (w:=d.drew) (c:=S.items.length) Z HL.out (gJ S) K (by omega) N
   have A3:Hid (bh l (ChangeMaps.setBlock d.drew f (.map (cO q (S.live.filter fun i=>decide (i≠K))) S.items.length)) L f q vr (S.outs K n)):=Lib.hid ⟨A.bag,A.map,A.pbb,A.mbb,A.one,A.mail⟩;have S3:=gd (w:=d.drew) Z (.map (cO q (S.live.filter fun i=>decide (i≠K))) S.items.length);have F:=Lib.hid (ep (w:=d.drew) E.drew fun g X e _=>aP S3 e fun e'=>by rw [e'] at e;rw [show d.drew.heap[f]? =_ from Z] at e;simp at e);have T:Hid (aH (fun k=>k=f∨k=q K) w (ChangeMaps.setBlock d.drew f (.map (cO q (S.live.filter fun i=>decide (i≠K))) S.items.length))):=Lib.hid (G.out.trans ((aH.below ((Below.refl d.heap.size d).drew):aH (fun k=>k=f) d d.drew).trans (aH.same S3) (fun _ _ e=>e)) (fun _ _ e=> .inl e))
   have V:Hid (∀C,w.heap[q K]? =some (.cells C 158 (0,0))→∃m,(ChangeMaps.setBlock d.drew f (.map (cO q (S.live.filter fun i=>decide (i≠K))) S.items.length)).heap[q K]? =some (.cells m 158 (0,0))∧m[4]? =C[4]? ∧m[5]? =C[5]? ∧∀k,(m.getD 2 undef).ownBlock=some k→w.heap.size≤k):=Lib.hid (by
    intro C hC;obtain ⟨m,I,h4,h5,h6⟩:=H.out C hC
    exact ⟨m,aP S3 I (fun e=>by rw [e,show d.heap[f]? =_ from Z] at I;simp at I),h4,h5,h6⟩)
   obtain ⟨w3,J⟩:∃w3,ChangeMaps.setBlock d.drew f (.map (cO q (S.live.filter fun i=>decide (i≠K))) S.items.length)=w3:=⟨_,rfl⟩;rw [J] at A3 F T V;have a9:∀P:TypeId,(Builtin.delete_ #[115,3] P #[.map (some f),.int .i64 ((K:Int)+1)]).run Tryz.prog d.drew= .ok (.tuple #[]) w3:=fun P=>by rw [s P,J]
   have b0:d.drew.cell? ⟨L,3,none⟩=some (.map (some f)):=by
    show d.cell? _=_;rw [Lib.cell_of_heap (gN b B.out.bag (fun e=>by have:=U.out;unfold dL at this;rw [←e,B.out.bag] at this;simp at this))];rfl
   have b1:d.drew.cell? ⟨w.heap.size,0,none⟩=some (.int .i64 ((K:Int)+1)):=by
    show d.cell? _=_;rw [Lib.cell_of_heap (gN b a3.out (fun e=>a5 e.symm))];rfl
   rw [y] at f2;clear r b p z E A Z S3 G y J s H;go_wp2_with fail
   go_region
   all_goals
    go_wp2_with fail
    go_ret;exact ⟨vn,rfl,F.out.mono (by have:=o.out.size;exact this),A3.out,T.out,V.out⟩
  ·have A:=Lib.hid (B.out.left N b p z Y)
   have y:(((bM (S.stayOf K) n).length:Int) == 0)=false:=by
    rw [beq_eq_false_iff_ne];intro e;exact Y (List.eq_nil_of_length_eq_zero (by omega))
   have a1:=Lib.hid E;clear r b p z E;go_wp2_with fail
   go_ret;exact ⟨vn,rfl,a1.out.mono (by have:=o.out.size;exact this),A.out,G.out,H.out⟩
theorem gS {S:bp} {K:Nat} {c:List Nat} {i:Nat} (a:K∈S.live) (h:i∈(S.outs K c).live):i∈S.live:=by
 by_cases b:bM (S.stayOf K) c=[]
 ·rw [jy a b] at h;exact (List.mem_filter.1 h).1
 ·rw [jz a b] at h;exact h
theorem uC {l A o K:Nat} {q:Nat→Nat} {F:Value} {S:bp} {ps:List Nat} {w m:World} (h:bh l w A o q F S) (n:K∈S.live) (u:aH (fun k=>k=o∨k=q K) w m) (y:∀C,w.heap[q K]? =some (.cells C 158 (0,0))→∃f,m.heap[q K]? =some (.cells f 158 (0,0))∧f[4]? =C[4]? ∧f[5]? =C[5]? ∧∀k,(f.getD 2 undef).ownBlock=some k→w.heap.size≤k):eZ A o q q S (S.outs K ps) w m∧lq w m q (S.outs K ps).live:=by
 have d:∀i∈S.live,i≠K→m.heap[q i]? =w.heap[q i]? :=fun i j r=>by
  obtain ⟨_,v,x,g,_⟩:=h.mail i j;refine u.block (q i) (ah g) (fun e=>?_)
  rcases e with e | e
  ·unfold dL at g;rw [e,show w.heap[o]? =_ from h.map] at g;simp at g
  ·exact r (h.one i j K n e)
 refine ⟨⟨u.mono (fun k _ e=> .inr (e.imp id (fun e=>⟨K,n,.inl e⟩))),fun k b=>?_⟩,fun i j C t=>?_⟩
 ·rcases b with b | b | ⟨i,j,b⟩
  ·exact .inl (.inl b)
  ·exact .inl (.inr (.inl b))
  ·have a:=gS n j
   rcases b with b | ⟨C,z,c,s⟩
   ·exact .inl (.inr (.inr ⟨i,a,.inl b⟩))
   ·by_cases e:i=K
    ·subst e;obtain ⟨_,v,x,g,_⟩:=h.mail i a;obtain ⟨f,p,_,_,E⟩:=y _ g;rw [p] at c;injection c with c;injection c with c;subst c;exact .inr (E k s)
    ·rw [d i a e] at c;exact .inl (.inr (.inr ⟨i,a,.inr ⟨C,z,c,s⟩⟩))
 ·have a:=gS n j
  by_cases e:i=K
  ·subst e;obtain ⟨f,p,B,D,_⟩:=y C t;exact ⟨f,p,B,D⟩
  ·exact ⟨C,(d i a e).trans t,rfl,rfl⟩
theorem rj (a b p:Nat) (q:Nat→Nat) (M s:Value) (S S':bp) (T r:Nat) (d:List Nat) (w:World) (h:bh a w b p q M S) (I:S.Ok) (B:Nat) (hp:w.ownsRow B 3 1 s d.length (aZ d)) (c7:r≤4294967295) (h1:1≤d.length) (a6:d.length≤255) (hr:bF d=true) (hT:T≤1000000000) (hn:S.items.length < 4294967295) (hm:bt S r d=true) (a5:S.time≤T) (hS:S.takesF T r d=some S'):
  Calls Tryz.prog 119 #[.pointer (some ⟨b,0,none⟩),.int .i64 T,.agg #[.int .i64 r,s]] w fun e w'=>e= .returned (.bool true)∧∃q',bh a w' b p q' M S'∧eZ b p q q' S S' w w'∧∀D,jk w q S.live D→jk w' q' S'.live (sH S.items.length T D):=by
 obtain ⟨V,G⟩:∃V:World,w.alloc (.cells #[.int .i64 r,s] 193)=V:=⟨_,rfl⟩;have B0:Below w.heap.size w V:=by rw [←G];exact (Below.refl _ _).alloc (Nat.le_refl _) _
 have A0:bh a V b p q M S:=h.keep B0;have X0:V.heap[w.heap.size]? =some (.cells #[.int .i64 r,s] 193 (0,0)):=by rw [←G];exact heap_alloc_new w _
 have O0:=ep hp fun g P e _=>ae B0 e;have HM:=Lib.hid (j8 a b p q M s S r d V A0 I (aF O0) c7 h1 a6 (by omega));rw [hm] at HM;have HH:=Lib.hid h;have a2:=Lib.hid hS;have A:=Lib.hid (kf hr hm a5);have a0:=Lib.hid (jS hr hm);rw [db h1,Bool.and_eq_true,decide_eq_true_eq] at hm;obtain ⟨⟨c6,f⟩,_⟩:=hm;have a8:=Lib.hid A0;have Y:=Lib.hid B0;have b7:=Lib.hid G;have c0:=Lib.hid X0;have b3:=Lib.hid O0;have c8:b < w.heap.size:=h.pblt;clear A0 B0 G X0 hp h O0 hS;go_enter Tryz.func119,Tryz.ntmps119;go_wp2_with fail
 rw [b7.out];refine HM.out.mono ?_;rintro e R ⟨rfl,k⟩;have x0:=ae k c0.out;have y0:R.cell? ⟨w.heap.size,0,none⟩=some (.int .i64 r):=by rw [Lib.cell_of_heap x0];rfl
 have y1:R.cell? ⟨w.heap.size,1,none⟩=some s:=by rw [Lib.cell_of_heap x0];rfl
 have c2:=Lib.hid x0;have A2:=a8.out.keep k;have c1:R.cell? ⟨b,1,none⟩=some (.int .i64 S.time):=by rw [Lib.cell_of_heap A2.bag];rfl
 have g1:R.frozen? ⟨b,1,none⟩=false:=Lib.frozen_of_heap A2.bag 1;have u:=Lib.hid A2;have O2:=Lib.hid (ep b3.out fun g P e _=>ae k e);have B2:=Lib.hid (Y.out.trans (k.mono Y.out.size));clear x0 k A2;obtain ⟨K,rfl⟩:∃K,r=K+1:=⟨r - 1,by omega⟩
 rw [Nat.add_sub_cancel] at A a0 f;have d2:¬T < S.time:=by omega
 clear a5;go_wp2_with fail
 obtain ⟨j,J⟩:∃j:World,R.setCell ⟨b,1,none⟩ (.int .i64 T)=j:=⟨_,rfl⟩;rw [J];have S3:aL b R j:=by rw [←J];exact (aL.refl _ _).setCell _
 have P3:j.heap[b]? =some (.cells #[M,.int .i64 T,.int .i64 S.items.length,.map (some p)] 117 (0,0)):=by
  rw [←J];exact heap_setCell_same R b 1 _ _ (.int .i64 T) u.out.bag
 have U:bh a j.drew b p q M ⟨S.items,T⟩:=(u.out.timed S3 P3).keep ((Below.refl _ _).drew);have X3:j.drew.heap[w.heap.size]? =some (.cells #[.int .i64 ((K:Int)+1),s] 193 (0,0)):=aP S3 c2.out (by omega);have O3:j.drew.ownsRow B 3 1 s d.length (aZ d):=ep O2.out fun g P e _=>aP S3 e fun e'=>by rw [e',u.out.bag] at e;simp at e
 have c3:j.drew.cell? ⟨b,3,none⟩=some (.map (some p)):=by rw [Lib.cell_of_heap U.bag];rfl
 have z0:j.drew.cell? ⟨w.heap.size,0,none⟩=some (.int .i64 ((K:Int)+1)):=by rw [Lib.cell_of_heap X3];rfl
 have z1:j.drew.cell? ⟨w.heap.size,1,none⟩=some s:=by rw [Lib.cell_of_heap X3];rfl
 have a3:=bq f
 have d1:(Instr.lookup 115 (.map (some p)) (.int .i64 ((K:Int)+1)) false).run Tryz.prog j.drew= .ok (.pointer (some ⟨q K,0,none⟩)) j.drew:=
  ig (t:=115) (e:=122) fU Tryz.underlying115 U.map (fun i n=>by have:=bq n;simp only at this;omega) K (by omega) f false
 obtain ⟨_,v,_,hb,_⟩:=U.mail K f;have m1:j.drew.cell? ⟨q K,1,none⟩=some (.string (bs (S.mailOf K).frm)):=by rw [Lib.cell_of_heap hb];rfl
 have b2:=Lib.hid (mM a b p q M s ⟨S.items,T⟩ K d j.drew U (I.time T) (aF O3) f a6 (by show S.items.length≤_;omega));have C:=Lib.hid (ym (T:=T) u.out (S3.drew));have a9:=Lib.hid U;have z:=Lib.hid f;have a1:Hid (dQ (S.mailOf K)):=Lib.hid (by rw [kd a3];exact (I.sz _ (List.getElem_mem a3)).1);have b5:=Lib.hid (dk I K);clear J S3 P3 U X3 O3 hb y0 y1 c1 g1 c6 f;obtain ⟨F,eF⟩:∃F,(S.mailOf K).frm=F:=⟨_,rfl⟩;rw [eF] at m1 A;go_region
 all_goals
  go_wp2_with fail
  refine b2.out.mono ?_;rintro e c ⟨vn,rfl,a7,A4,K4,X4⟩
  have c4:c.drew.cell? ⟨b,2,none⟩=some (.int .i64 (S.items.length:Int)):=by
   show c.cell? _=_;rw [Lib.cell_of_heap A4.bag,bL];rfl
  have c5:∀o:Obj,(c.alloc o).cell? ⟨b,2,none⟩=some (.int .i64 (S.items.length:Int)):=fun o=>by
   have:=ae ((Below.refl _ c).alloc (Nat.le_refl _) o) A4.bag;rw [Lib.cell_of_heap this,bL];rfl
  have b6:=Lib.hid a7;have y:=Lib.hid A4;have E:=Lib.hid (uC a9.out z.out K4 X4 (ps:=d));clear a7 A4 K4 X4
  by_cases Q:F=[]
  ·have tF:(bs F).toList.isEmpty=true:=by rw [Lib.toList_data,Q];rfl
   have HR:=Lib.hid (A.out.1 Q);clear Q;go_wp2_with fail
   go_ret;have ES:=Option.some.inj (a2.out.symm.trans HR.out);subst ES;exact ⟨rfl,q,y.out,eZ.after HH.out B2.out (C.out.1.trans E.out.1),fun D hd=>(E.out.2.due (fun i n=>gS z.out n) (C.out.2.due (fun _ n=>n) (hd.below B2.out))).new (fun i n=>bq (gS z.out n))⟩
  ·have tF:(bs F).toList.isEmpty=false:=by
    rw [Lib.toList_data]
    cases F with
    | nil=>exact absurd rfl Q
    | cons x l=>rfl
   have HR:=Lib.hid (A.out.2 Q);have d3:IntKind.i64.wrap ((S.items.length:Int)+1)=(S.items.length:Int)+1:=by rw [IntKind.wrap_i64];omega
   obtain ⟨N,eN⟩:∃N,dx (S.stayOf K) d=N:=⟨_,rfl⟩;have c9:N.length≤10:=by rw [←eN];have:=mV (S.stayOf K) d;have:=b5.out;omega
   have a4:∀t∈N,t.length≤255:=by
    intro t ht;rw [←eN,a0.out,List.mem_map] at ht;obtain ⟨i,_,rfl⟩:=ht;exact nQ a1.out.2.2.2.2.1 i
   have d0:=lX N a4;have L:c.ownsRow j.drew.heap.size 9 1 vn N.length (cm N):=by rw [←eN];exact b6.out
   have b4:Hid (∀W:World,Below c.heap.size c W→Calls Tryz.prog 170 #[vn] W fun e w'=>e= .returned (.string (bs (fY N)))∧W=w'):=Lib.hid (fun W hW=>nB N vn W (aF (ep L fun g P e _=>ae hW e)) (by omega) a4);obtain ⟨X,H⟩:∃X:World,(c.alloc (.cells #[.string (bs F)] 9)).drew=X:=⟨_,rfl⟩;have B5:Below c.heap.size c X:=by rw [←H];exact ((Below.refl _ _).alloc (Nat.le_refl _) _).drew
   have X5:X.heap[c.heap.size]? =some (.cells #[.string (bs F)] 9 (0,0)):=by rw [←H];exact heap_alloc_new c _
   have O5:X.ownsRow c.heap.size 9 1 (.slice (some ⟨c.heap.size,0,none⟩) 1 1) 1 (cm [F]):=
    ⟨rfl,.inr ⟨c.heap.size,1,_,rfl,Nat.le_refl _,X5,Nat.le_refl _,by unfold maxLen;omega,rfl,rfl⟩⟩
   have b1:=Lib.hid (rA a b p q M (bp.outs ⟨S.items,T⟩ K d) ⟨S.items.length+1,T,[],[F],fY N⟩ (.slice (some ⟨c.heap.size,0,none⟩) 1 1) X (y.out.keep B5) c.heap.size O5
    ⟨by show S.items.length+1≤_;omega,by show T≤_;omega,by simp,by simp,fun t ht=>by simp at ht;subst ht;rw [←eF];exact a1.out.2.2.1,by show (fY N).length≤_;omega⟩ (by rw [bL]) (by simp) (by rw [bL];exact hn))
   have O:=Lib.hid B5;have b8:=Lib.hid H;have HF:=Lib.hid Q;rw [eN] at HR;clear Q eF B5 X5 O5 L H eN;go_wp2_with fail
   go_region_law (first
    | (go_simp;go_at_call 170;refine (b4.out _ (by first | exact (Below.refl _ _).drew | exact ((Below.refl _ _).alloc (Nat.le_refl _) _).drew | exact ((Below.refl _ _).drew).alloc (Nat.le_refl _) _)).mono ?_;rintro e w5 ⟨rfl,rfl⟩)
    | (go_simp;go_at_call 166;rw [b8.out];refine b1.out.mono ?_;rintro e w6 ⟨rfl,q',A6,K6,O6,Q6,N6⟩;have b0:=Lib.hid A6;have Z:=Lib.hid (zU (m:=⟨S.items.length+1,T,[],[F],fY N⟩) (y.out.keep O.out) (Nat.le_refl 1) K6 O6 Q6 N6);clear A6 K6 O6 Q6 N6))
   all_goals
    go_wp2_with fail
    go_ret;have ES:=Option.some.inj (a2.out.symm.trans HR.out);subst ES;refine ⟨rfl,_,b0.out,(eZ.after HH.out B2.out (C.out.1.trans E.out.1)).trans (eZ.after y.out O.out Z.out.1),fun D hd=>?_⟩;have d4:=E.out.2.due (fun i n=>gS z.out n) (C.out.2.due (fun _ n=>n) (hd.below B2.out));have d6:=Z.out.2 D (d4.below O.out);rw [bL] at d6;exact d6
end Go.Proofs.YtofpegbpgkkgkaaGreatDoor
