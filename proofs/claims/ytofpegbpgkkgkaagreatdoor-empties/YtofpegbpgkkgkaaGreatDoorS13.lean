import Derived.Test.YtofpegbpgkkgkaaGreatDoorS07
import Derived.Test.YtofpegbpgkkgkaaGreatDoorS10
namespace Go.Proofs.YtofpegbpgkkgkaaGreatDoor
set_option maxHeartbeats 8000000
set_option maxRecDepth 1000000
open Go.RowKit
theorem j8 (d z l:Nat) (q:Nat→Nat) (H n:Value) (S:aa) (a:Nat) (m:List Nat) (w:World) (h:bh d w z l q H S) (C:S.Ok) (D:bg w n m.length 1 (aZ m)) (K:a≤4294967295) (I:1≤m.length) (E:m.length≤255) (Q:S.items.length≤4294967295):
  Calls Tryz.prog 168 #[.pointer (some ⟨z,0,none⟩),.agg #[.int .i64 a,n]] w fun e L=>e= .returned (.bool (bt S a m))∧Below w.heap.size w L:=by
 rw [db I];obtain ⟨b,f⟩:∃b:World,w.alloc (.cells #[.int .i64 a,n] 193)=b:=⟨_,rfl⟩;have p:Below w.heap.size w b:=by rw [←f];exact (Below.refl _ _).alloc (Nat.le_refl _) _
 have o:bh d b z l q H S:=h.keep p;have y:b.heap[w.heap.size]? =some (.cells #[.int .i64 a,n] 193 (0,0)):=by rw [←f];exact heap_alloc_new w _
 have N:b.drew.cell? ⟨z,3,none⟩=some (.map (some l)):=by show b.cell? _=_;rw [Lib.cell_of_heap o.bag];rfl
 have O:b.drew.cell? ⟨w.heap.size,0,none⟩=some (.int .i64 a):=by show b.cell? _=_;rw [Lib.cell_of_heap y];rfl
 have P:b.drew.cell? ⟨w.heap.size,1,none⟩=some n:=by show b.cell? _=_;rw [Lib.cell_of_heap y];rfl
 have c:∀i∈S.live,i < 4294967296:=fun i J=>by have:=bq J;omega
 have s:gh b.drew l q S.live S.items.length:=o.map;have r:=Lib.hid f;have j:=Lib.hid p
 by_cases k:1≤a∧a - 1∈S.live
 ·have B:(Instr.lookup 115 (.map (some l)) (.int .i64 a) true).run Tryz.prog b.drew= .ok (.tuple #[.pointer (some ⟨q (a - 1),0,none⟩),.bool true]) b.drew:=by
   have:=ig (t:=115) (e:=122) fU Tryz.underlying115 s c (a - 1) (by omega) k.2 true;rw [show ((a - 1:Nat):Int)+1=(a:Int) by omega] at this
   exact this
  rw [decide_eq_true k,Bool.true_and];obtain ⟨_,v,x,F,G⟩:=o.mail (a - 1) k.2;have A:=Lib.hid (CK d (q (a - 1)) _ _ _ v n (S.stayOf (a - 1)) m x b.drew F G (D.below p.drew) (by have:=dk C (a - 1);omega) E);clear F G o y p s c D h f;go_enter Tryz.func168,Tryz.ntmps168;go_wp2_with fail
  rw [r.out];go_region
  all_goals
   go_wp2_with fail
   refine A.out.mono ?_;rintro e M ⟨rfl,g⟩;go_wp2_with fail
   go_ret;exact ⟨rfl,j.out.trans ((show Below b.heap.size b M from ⟨g.os,g.tape,g.output,g.size,g.block⟩).mono j.out.size)⟩
 ·have u:a=0∨a - 1 ∉ S.live:=by
   by_cases e:a=0
   ·exact .inl e
   ·exact .inr fun h=>k ⟨by omega,h⟩
  have B:(Instr.lookup 115 (.map (some l)) (.int .i64 a) true).run Tryz.prog b.drew= .ok (.tuple #[.pointer none,.bool false]) b.drew:=by
   by_cases e:a=0
   ·subst e;exact wT (t:=115) (e:=122) fU Tryz.underlying115 (pk _) s c true
   ·have:=rM (t:=115) (e:=122) fU Tryz.underlying115 (pk _) s c (a - 1) (by omega) (u.resolve_left e) true;rw [show ((a - 1:Nat):Int)+1=(a:Int) by omega] at this
    exact this
  rw [decide_eq_false k,Bool.false_and];clear o y p s c D h f u k;go_enter Tryz.func168,Tryz.ntmps168;go_wp2_with fail
  rw [r.out];go_region
  all_goals
   go_wp2_with fail
   go_ret;exact ⟨rfl,j.out.drew⟩
theorem zz (a j s:Nat) (q:Nat→Nat) (t g:Value) (S:aa) (b:Nat) (f:List Nat) (w:World) (h:bh a w j s q t S) (p:S.Ok) (F:bg w g f.length 1 (aZ f)) (D:b≤4294967295) (L:1≤f.length) (r:f.length≤255) (M:S.items.length≤4294967295):
  Calls Tryz.prog 117 #[.pointer (some ⟨j,0,none⟩),.agg #[.int .i64 b,g]] w (mL a j s q t S (S.takesG b f) w):=by
 have E:=h.le;obtain ⟨i,c⟩:∃i:World,w.alloc (.cells #[.int .i64 b,g] 193)=i:=⟨_,rfl⟩;have k:Below w.heap.size w i:=by rw [←c];exact (Below.refl _ _).alloc (Nat.le_refl _) _
 have u:bh a i j s q t S:=h.keep k;have B:i.heap[w.heap.size]? =some (.cells #[.int .i64 b,g] 193 (0,0)):=by rw [←c];exact heap_alloc_new w _
 have R:∀o:Obj,o= .cells #[.int .i64 b,g] 193→(w.alloc o).cell? ⟨w.heap.size,0,none⟩=some (.int .i64 b):=fun o T=>by rw [T,c,Lib.cell_of_heap B];rfl
 have P:=Lib.hid (j8 a j s q t g S b f i u p (F.below k) D L r M);have l:=Lib.hid u;have v:=Lib.hid k;have z:=Lib.hid c;have A:=Lib.hid B;have x:=Lib.hid (F.below k);clear u k c B F h R;go_enter Tryz.func117,Tryz.ntmps117;go_wp2_with fail
 rw [z.out];refine P.out.mono ?_;rintro e G ⟨rfl,d⟩;have H:=ae d A.out;have W:G.cell? ⟨w.heap.size,0,none⟩=some (.int .i64 b):=by rw [Lib.cell_of_heap H];rfl
 have X:G.cell? ⟨w.heap.size,1,none⟩=some g:=by rw [Lib.cell_of_heap H];rfl
 have I:=Lib.hid (l.out.keep d);have Q:=Lib.hid (x.out.below d);have J:=Lib.hid (((v.out.mono E)).trans (d.mono l.out.le));clear H d
 cases n:bt S b f with
 | false=>
  have y:Hid (S.takesG b f=none):=Lib.hid (by unfold aa.takesG;rw [n];rfl);clear n;go_wp2_with fail
  go_ret;exact ⟨.inl ⟨y.out,rfl,I.out⟩,J.out⟩
 | true=>
  have y:Hid (S.takesG b f=some (S.outs (b - 1) f)):=Lib.hid (by unfold aa.takesG;rw [n];rfl);rw [db L,Bool.and_eq_true,decide_eq_true_eq] at n;obtain ⟨⟨C,m⟩,_⟩:=n;have K:=Lib.hid (pz a j s q t g S (b - 1) f G I.out p Q.out m r M);rw [show ((b - 1:Nat):Int)+1=(b:Int) by omega] at K
  clear C m;go_wp2_with fail
  refine K.out.mono ?_;rintro e V ⟨U,rfl,_,N,O⟩;go_wp2_with fail
  go_ret;exact ⟨.inr ⟨_,q,y.out,rfl,N⟩,J.out.trans O⟩
theorem lX (l:List (List UInt8)) (a:∀t∈l,t.length≤255):(fY l).length≤14+257 * l.length:=by
 unfold fY;rw [List.length_append,show Jq.length=14 from rfl]
 have:(l.flatMap fun t=>[13,10]++t).length≤257 * l.length:=by
  induction l with
  | nil=>simp
  | cons x l ih=>
   have c:=ih fun t b=>a t (by simp [b]);have d:=a x (by simp);rw [List.flatMap_cons,List.length_append,List.length_append];simp only [List.length_cons,List.length_nil];omega
 omega
theorem nQ {a:List (List UInt8)} (b:∀t∈a,t.length≤255) (i:Nat):(a.getD i []).length≤255:=by
 rw [List.getD_eq_getElem?_getD]
 cases h:a[i]? with
 | none=>simp
 | some x=>exact b x (List.mem_of_getElem? h)
theorem jS {S:aa} {c:Nat} {a:List Nat} (d:bF a=true) (b:bt S c a=true):dx (S.stayOf (c - 1)) a=a.map fun i=>(S.mailOf (c - 1)).tos.getD i []:=by
 unfold bt at b;rw [Bool.and_eq_true,List.all_eq_true] at b;unfold dx aa.stayOf;refine DL _ _ _ d fun x e=>?_;have:=b.2 x e;simpa using this
theorem kf {S:aa} {T a:Nat} {b:List Nat} (e:bF b=true) (c:bt S a b=true) (d:S.time≤T):
  ((S.mailOf (a - 1)).frm=[]→S.takesF T a b=some (aa.outs ⟨S.items,T⟩ (a - 1) b))∧
  ((S.mailOf (a - 1)).frm≠[]→S.takesF T a b=some ((aa.outs ⟨S.items,T⟩ (a - 1) b).plus ⟨S.items.length+1,T,[],[(S.mailOf (a - 1)).frm],fY (dx (S.stayOf (a - 1)) b)⟩)):=by
 unfold aa.takesF;rw [c,decide_eq_true d];simp only [Bool.and_true,if_true,aa.failed]
 constructor
 ·intro h;rw [if_pos h];rfl
 ·intro h;rw [if_neg h,jS e c,Bl];simp [aa.plus,aa.outs]
theorem vL (a b p:Nat) (q:Nat→Nat) (E r:Value) (S:aa) (T m:Nat) (d:List Nat) (w:World) (h:bh a w b p q E S) (A:S.Ok) (B:Nat) (hp:w.ownsRow B 3 1 r d.length (aZ d)) (c6:m≤4294967295) (h1:1≤d.length) (a2:d.length≤255) (hr:bF d=true) (hT:T≤1000000000) (hn:S.items.length < 4294967295):
  Calls Tryz.prog 119 #[.pointer (some ⟨b,0,none⟩),.int .i64 T,.agg #[.int .i64 m,r]] w (mL a b p q E S (S.takesF T m d) w):=by
 have c7:=h.le;obtain ⟨J,y⟩:∃J:World,w.alloc (.cells #[.int .i64 m,r] 193)=J:=⟨_,rfl⟩;have B0:Below w.heap.size w J:=by rw [←y];exact (Below.refl _ _).alloc (Nat.le_refl _) _
 have A0:bh a J b p q E S:=h.keep B0;have X0:J.heap[w.heap.size]? =some (.cells #[.int .i64 m,r] 193 (0,0)):=by rw [←y];exact heap_alloc_new w _
 have O0:=aA hp fun g G e _=>ae B0 e;have HM:=Lib.hid (j8 a b p q E r S m d J A0 A (aF O0) c6 h1 a2 (by omega));have Q:=Lib.hid A0;have a6:=Lib.hid B0;have b4:=Lib.hid y;have b6:=Lib.hid X0;have b0:=Lib.hid O0;have c9:b < w.heap.size:=h.pblt;clear A0 B0 y X0 hp h O0;go_enter Tryz.func119,Tryz.ntmps119;go_wp2_with fail
 rw [b4.out];refine HM.out.mono ?_;rintro e I ⟨rfl,n⟩;have x0:=ae n b6.out;have y0:I.cell? ⟨w.heap.size,0,none⟩=some (.int .i64 m):=by rw [Lib.cell_of_heap x0];rfl
 have y1:I.cell? ⟨w.heap.size,1,none⟩=some r:=by rw [Lib.cell_of_heap x0];rfl
 have b7:=Lib.hid x0;have A2:=Q.out.keep n;have c1:I.cell? ⟨b,1,none⟩=some (.int .i64 S.time):=by rw [Lib.cell_of_heap A2.bag];rfl
 have g1:I.frozen? ⟨b,1,none⟩=false:=Lib.frozen_of_heap A2.bag 1;have j:=Lib.hid A2;have O2:=Lib.hid (aA b0.out fun g G e _=>ae n e);have B2:=Lib.hid (((a6.out.mono c7)).trans (n.mono Q.out.le));clear x0 n A2
 cases M:bt S m d with
 | false=>
  have HT:Hid (S.takesF T m d=none):=Lib.hid (by unfold aa.takesF;rw [M];rfl);clear M;go_wp2_with fail
  go_ret;exact ⟨.inl ⟨HT.out,rfl,j.out⟩,B2.out⟩
 | true=>
  by_cases u:S.time≤T
  ·have s:=Lib.hid (kf hr M u);have V:=Lib.hid (jS hr M);rw [db h1,Bool.and_eq_true,decide_eq_true_eq] at M;obtain ⟨⟨c2,k⟩,_⟩:=M;obtain ⟨K,rfl⟩:∃K,m=K+1:=⟨m - 1,by omega⟩
   rw [Nat.add_sub_cancel] at s V k;have c8:¬T < S.time:=by omega
   clear u;go_wp2_with fail
   obtain ⟨f,C⟩:∃f:World,I.setCell ⟨b,1,none⟩ (.int .i64 T)=f:=⟨_,rfl⟩;rw [C];have Y:aL b I f:=by rw [←C];exact (aL.refl _ _).setCell _
   have P3:f.heap[b]? =some (.cells #[E,.int .i64 T,.int .i64 S.items.length,.map (some p)] 117 (0,0)):=by
    rw [←C];exact heap_setCell_same I b 1 _ _ (.int .i64 T) j.out.bag
   have O:bh a f.drew b p q E ⟨S.items,T⟩:=(j.out.timed Y P3).keep ((Below.refl _ _).drew);have X3:f.drew.heap[w.heap.size]? =some (.cells #[.int .i64 ((K:Int)+1),r] 193 (0,0)):=aP Y b7.out (by omega);have O3:f.drew.ownsRow B 3 1 r d.length (aZ d):=aA O2.out fun g G e _=>aP Y e fun e'=>by rw [e',j.out.bag] at e;simp at e
   have c3:f.drew.cell? ⟨b,3,none⟩=some (.map (some p)):=by rw [Lib.cell_of_heap O.bag];rfl
   have z0:f.drew.cell? ⟨w.heap.size,0,none⟩=some (.int .i64 ((K:Int)+1)):=by rw [Lib.cell_of_heap X3];rfl
   have z1:f.drew.cell? ⟨w.heap.size,1,none⟩=some r:=by rw [Lib.cell_of_heap X3];rfl
   have a0:=bq k
   have d2:(Instr.lookup 115 (.map (some p)) (.int .i64 ((K:Int)+1)) false).run Tryz.prog f.drew= .ok (.pointer (some ⟨q K,0,none⟩)) f.drew:=
    ig (t:=115) (e:=122) fU Tryz.underlying115 O.map (fun i hi=>by have:=bq hi;simp only at this;omega) K (by omega) k false
   obtain ⟨_,v,_,hb,_⟩:=O.mail K k;have m1:f.drew.cell? ⟨q K,1,none⟩=some (.string (bs (S.mailOf K).frm)):=by rw [Lib.cell_of_heap hb];rfl
   have a9:=Lib.hid (pz a b p q E r ⟨S.items,T⟩ K d f.drew O (A.time T) (aF O3) k a2 (by show S.items.length≤_;omega));have c0:=Lib.hid (B2.out.trans ((Y.below j.out.pbb).drew));have X:Hid (dQ (S.mailOf K)):=Lib.hid (by rw [cd a0];exact (A.sz _ (List.getElem_mem a0)).1);have b2:=Lib.hid (dk A K);clear C Y P3 O X3 O3 hb y0 y1 c1 g1 c2 k;obtain ⟨F,eF⟩:∃F,(S.mailOf K).frm=F:=⟨_,rfl⟩;rw [eF] at m1 s;go_region
   all_goals
    go_wp2_with fail
    refine a9.out.mono ?_;rintro e c ⟨vn,rfl,a3,P,B4⟩;have b8:=P.le
    have c4:c.drew.cell? ⟨b,2,none⟩=some (.int .i64 (S.items.length:Int)):=by
     show c.cell? _=_;rw [Lib.cell_of_heap P.bag,bL];rfl
    have c5:∀o:Obj,(c.alloc o).cell? ⟨b,2,none⟩=some (.int .i64 (S.items.length:Int)):=fun o=>by
     have:=ae ((Below.refl _ c).alloc (Nat.le_refl _) o) P.bag;rw [Lib.cell_of_heap this,bL];rfl
    have b3:=Lib.hid a3;have R:=Lib.hid P;have U:=Lib.hid (c0.out.trans B4);clear a3 P B4
    by_cases H:F=[]
    ·have tF:(bs F).toList.isEmpty=true:=by rw [Lib.toList_data,H];rfl
     have HR:=Lib.hid (s.out.1 H);clear H;go_wp2_with fail
     go_ret;exact ⟨.inr ⟨_,q,HR.out,rfl,R.out⟩,U.out⟩
    ·have tF:(bs F).toList.isEmpty=false:=by
      rw [Lib.toList_data]
      cases F with
      | nil=>exact absurd rfl H
      | cons x l=>rfl
     have HR:=Lib.hid (s.out.2 H);have d3:IntKind.i64.wrap ((S.items.length:Int)+1)=(S.items.length:Int)+1:=by rw [IntKind.wrap_i64];omega
     obtain ⟨N,Z⟩:∃N,dx (S.stayOf K) d=N:=⟨_,rfl⟩;have d0:N.length≤10:=by rw [←Z];have:=mV (S.stayOf K) d;have:=b2.out;omega
     have a1:∀t∈N,t.length≤255:=by
      intro t ht;rw [←Z,V.out,List.mem_map] at ht;obtain ⟨i,_,rfl⟩:=ht;exact nQ X.out.2.2.2.2.1 i
     have d1:=lX N a1;have D:c.ownsRow f.drew.heap.size 9 1 vn N.length (aB N):=by rw [←Z];exact b3.out
     have b1:Hid (∀W:World,Below c.heap.size c W→Calls Tryz.prog 170 #[vn] W fun e w'=>e= .returned (.string (bs (fY N)))∧W=w'):=Lib.hid (fun W hW=>nB N vn W (aF (aA D fun g G e _=>ae hW e)) (by omega) a1);obtain ⟨L,z⟩:∃L:World,(c.alloc (.cells #[.string (bs F)] 9)).drew=L:=⟨_,rfl⟩;have B5:Below c.heap.size c L:=by rw [←z];exact ((Below.refl _ _).alloc (Nat.le_refl _) _).drew
     have X5:L.heap[c.heap.size]? =some (.cells #[.string (bs F)] 9 (0,0)):=by rw [←z];exact heap_alloc_new c _
     have O5:L.ownsRow c.heap.size 9 1 (.slice (some ⟨c.heap.size,0,none⟩) 1 1) 1 (aB [F]):=
      ⟨rfl,.inr ⟨c.heap.size,1,_,rfl,Nat.le_refl _,X5,Nat.le_refl _,by unfold maxLen;omega,rfl,rfl⟩⟩
     have a5:=Lib.hid (tG a b p q E (aa.outs ⟨S.items,T⟩ K d) ⟨S.items.length+1,T,[],[F],fY N⟩ (.slice (some ⟨c.heap.size,0,none⟩) 1 1) L (R.out.keep B5) c.heap.size O5
      ⟨by show S.items.length+1≤_;omega,by show T≤_;omega,by simp,by simp,fun t ht=>by simp at ht;subst ht;rw [←eF];exact X.out.2.2.1,by show (fY N).length≤_;omega⟩ (by rw [bL]) (by simp) (by rw [bL];exact hn))
     have a7:=Lib.hid (U.out.trans (B5.mono b8));have b5:=Lib.hid z;have HF:=Lib.hid H;rw [Z] at HR;clear H eF B5 X5 O5 D z Z;go_wp2_with fail
     go_region_law (first
      | (go_simp;go_at_call 170;refine (b1.out _ (by first | exact (Below.refl _ _).drew | exact ((Below.refl _ _).alloc (Nat.le_refl _) _).drew | exact ((Below.refl _ _).drew).alloc (Nat.le_refl _) _)).mono ?_;rintro e w5 ⟨rfl,rfl⟩)
      | (go_simp;go_at_call 166;rw [b5.out];refine a5.out.mono ?_;rintro e w6 ⟨rfl,q',A6,B6⟩;have a4:=Lib.hid A6;have a8:=Lib.hid B6;clear A6 B6))
     all_goals
      go_wp2_with fail
      go_ret;exact ⟨.inr ⟨_,_,HR.out,rfl,a4.out⟩,a7.out.trans a8.out⟩
  ·have HT:Hid (S.takesF T m d=none):=Lib.hid (by unfold aa.takesF;rw [decide_eq_false u,Bool.and_false];rfl);have c8:T < S.time:=by omega
   clear u;go_wp2_with fail
   go_ret;exact ⟨.inl ⟨HT.out,rfl,j.out⟩,B2.out⟩
def fH.pot (x:fH):Nat:=(stay x.m.tos x.out).length * (if x.m.frm=[] then 1 else 2)
def aa.pot (S:aa):Nat:=(S.items.map fH.pot).sum
theorem vJ (f:fH→fH) (g:fH→Nat):∀(l:List fH) (k:Nat) (h:k < l.length),((l.modify k f).map g).sum+g l[k]=(l.map g).sum+g (f l[k])
 | [],_,h=>by simp at h
 | x::l,0,_=>by simp [List.modify];omega
 | x::l,k+1,h=>by
  have:=vJ f g l k (by simpa using h);simp only [List.modify_succ_cons,List.map_cons,List.sum_cons,List.getElem_cons_succ];omega
theorem Ip (S:aa) (m:aX):(S.plus m).pot=S.pot+m.tos.length * (if m.frm=[] then 1 else 2):=by
 unfold aa.pot aa.plus;rw [List.map_append,List.sum_append];simp only [List.map_cons,List.map_nil,List.sum_cons,List.sum_nil,Nat.add_zero,fH.pot];rw [nH,List.length_map,List.length_range]
theorem IA {l:List (Nat×List UInt8)} {a:List Nat} {x:Nat} (d:x∈a) (h:(l.any fun r=>decide (r.1=x))=true):(bM l a).length+1≤l.length:=by
 obtain ⟨r,c,e⟩:=List.any_eq_true.1 h;have e:r.1=x:=by simpa using e
 unfold bM;refine Nat.lt_of_le_of_ne (List.length_filter_le _ _) (fun b=>?_);have:=(List.length_filter_eq_length_iff.1 b) r c;rw [e] at this;simp at this;exact this d
theorem Bu {S:aa} {a:Nat} {b:List Nat} (g:1≤b.length) (f:bt S a b=true):(S.outs (a - 1) b).pot+(if (S.mailOf (a - 1)).frm=[] then 1 else 2)≤S.pot:=by
 rw [db g,Bool.and_eq_true,decide_eq_true_eq] at f;obtain ⟨⟨_,m⟩,k⟩:=f;have c:=bq m
 obtain ⟨x,h⟩:∃x,x∈b:=by
  cases b with
  | nil=>simp at g
  | cons x l=>exact ⟨x,by simp⟩
 have n:=IA h (List.all_eq_true.1 k x h);have d:=vJ (fun x=>⟨x.m,jV x.out b⟩) fH.pot S.items (a - 1) c
 have i:fH.pot ⟨S.items[a - 1].m,jV S.items[a - 1].out b⟩=(bM (S.stayOf (a - 1)) b).length * (if (S.mailOf (a - 1)).frm=[] then 1 else 2):=by
  unfold fH.pot;rw [cd c,gT c];unfold bM;rw [←rV]
 have j:fH.pot S.items[a - 1]=(S.stayOf (a - 1)).length * (if (S.mailOf (a - 1)).frm=[] then 1 else 2):=by
  unfold fH.pot;rw [cd c,gT c]
 rw [i,j] at d;show ((S.items.modify (a - 1) _).map fH.pot).sum+_≤(S.items.map fH.pot).sum
 split at d
 ·rename_i e;rw [if_pos e];omega
 ·rename_i e;rw [if_neg e];omega
theorem ya {S d:aa} {T b:Nat} {c:List Nat} (j:1≤c.length) (a:S.takesF T b c=some d):d.pot+1≤S.pot∧d.items.length+d.pot≤S.items.length+S.pot∧d.time=T:=by
 unfold aa.takesF at a
 split at a
 ·rename_i g
  rw [Bool.and_eq_true] at g;have f:=Bu j g.1;have i:=bL S (b - 1) c;injection a with a;unfold aa.failed at a
  split at a
  ·rename_i e
   rw [if_pos e] at f;subst a;have k:(aa.mk (S.outs (b - 1) c).items T).pot=(S.outs (b - 1) c).pot:=rfl;have l:(aa.mk (S.outs (b - 1) c).items T).items.length=S.items.length:=i;exact ⟨by omega,by omega,rfl⟩
  ·rename_i e
   rw [if_neg e] at f;subst a;refine ⟨?_,?_,rfl⟩
   all_goals
    simp only [aa.pot,List.map_append,List.sum_append,List.map_cons,List.map_nil,List.sum_cons,List.sum_nil,List.length_append,List.length_cons,List.length_nil];have h:fH.pot ⟨⟨(S.outs (b - 1) c).items.length+1,T,[],[(S.mailOf (b - 1)).frm],Ai (S.mailOf (b - 1)).tos c⟩,[false]⟩=1:=rfl;rw [h];unfold aa.pot at f;omega
 ·cases a
def zP (S:aa) (recs:List UInt8):Prop:=∃M,M≤1000000∧M≤recs.length∧S.items.length+S.pot≤M∧recs.length+200 * S.pot≤201 * M
theorem zP.items {S:aa} {a:List UInt8} (h:zP S a):S.items.length≤1000000:=by
 obtain ⟨M,b,c,d,e⟩:=h;omega
theorem zP.len {S:aa} {a:List UInt8} (h:zP S a):a.length≤201000000:=by
 obtain ⟨M,b,c,d,e⟩:=h;omega
theorem zP.nil (T:Nat):zP ⟨[],T⟩ []:=⟨0,by omega,by simp,by simp [aa.pot],by simp [aa.pot]⟩
theorem zP.plus {S:aa} {a l:List UInt8} {m:aX} (h:zP S a) (k:m.tos.length≤10) (i:21+m.tos.length≤l.length) (j:a.length+l.length≤1000000):zP (S.plus m) (a++l):=by
 obtain ⟨M,c,d,f,g⟩:=h;have e:=Ip S m;have b:m.tos.length * (if m.frm=[] then 1 else 2)≤m.tos.length * 2:=Nat.mul_le_mul_left _ (by split <;> omega)
 refine ⟨M+l.length,by omega,by rw [List.length_append];omega,by rw [dv];omega,?_⟩
 rw [List.length_append];omega
theorem zP.less {S b:aa} {a l:List UInt8} (h:zP S a) (g:b.pot+1≤S.pot) (i:b.items.length+b.pot≤S.items.length+S.pot) (j:l.length≤200):zP b (a++l):=by
 obtain ⟨M,c,d,e,f⟩:=h;exact ⟨M,c,by rw [List.length_append];omega,by omega,by rw [List.length_append];omega⟩
theorem F4 (l:List (List UInt8)):l.length≤(eE l).length:=by
 induction l with
 | nil=>simp
 | cons t l ih=>
  show (t::l).length≤(jC t++eE l).length;rw [List.length_append,yi,List.length_cons];omega
theorem GL (m:aX):21+m.tos.length≤(bJ (cA m)).length:=by
 have:=F4 m.tos;unfold bJ cA;simp only [List.length_append,List.length_cons,bf,yi];omega
theorem pM {b T:Nat} {a:List Nat} (h:a.length≤100):(bJ (71::aM b a)).length≤200∧(bJ (70::(az 4 T++aM b a))).length≤200:=by
 unfold bJ aM;simp only [List.length_append,List.length_cons,bf,jd];omega
end Go.Proofs.YtofpegbpgkkgkaaGreatDoor
