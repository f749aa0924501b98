import Derived.Test.YtofpegbpgkkgkaaGreatDoorS13
import Derived.Test.YtofpegbpgkkgkaaGreatDoorS15
namespace Go.Proofs.YtofpegbpgkkgkaaGreatDoor
set_option maxHeartbeats 8000000
set_option maxRecDepth 1000000
open Go.RowKit
open Go.ChangeMaps (setBlock)
section
variable {base pb mb:Nat} {q:Nat→Nat} {vr:Value} {S:aa} {w w':World}
theorem bf.dued (h:bf base w pb mb q vr S) {i:Nat} (m:i∈S.live) (T:Int):bf base (w.setCell ⟨q i,4,none⟩ (.int .i64 T)) pb mb q vr S:=by
 have k:aH (q i) w (w.setCell ⟨q i,4,none⟩ (.int .i64 T)):=(aH.refl _ _).setCell _;obtain ⟨s,u,y,f,t⟩:=h.mail i m;refine ⟨aJ k h.bag (fun e=>?_),aJ k h.map (fun e=>?_),h.pbb,h.mbb,h.one,fun j n=>?_⟩
 ·unfold dD at f;rw [←e,h.bag] at f;simp at f
 ·have:=h.map;unfold fP at this;unfold dD at f;rw [e,f] at this;simp at this
 ·obtain ⟨a,v,x,b,c⟩:=h.mail j n
  have d:(w.setCell ⟨q i,4,none⟩ (.int .i64 T)).ownsRow base 162 2 v (S.stayOf j).length (aL (S.stayOf j)):=ax c fun g o e _=>aJ k e fun l=>by
   unfold dD at f;rw [l,f] at e;simp at e
  by_cases e:j=i
  ·subst e;have p:=heap_setCell_same w (q j) 4 _ _ (.int .i64 T) b;exact ⟨a,v,(T,x.2),p,d⟩
  ·exact ⟨a,v,x,aJ k b (fun l=>e (h.one j n i m l)),d⟩
end
theorem vP {q:Nat→Nat} {l:List Nat} {seen:Array Nat} {e:MapEntry} (h:e∈(Go.leftOf (cF q l) seen).toList):∃i∈l,e=mO q i:=by
 unfold Go.leftOf at h;simp only [Array.toList_filter,List.mem_filter,cJ] at h;obtain ⟨i,a,rfl⟩:=List.mem_map.1 h.1;exact ⟨i,a,rfl⟩
theorem sj {q:Nat→Nat} {l:List Nat} (h:l.Nodup):((cF q l).toList.map (·.born)).Nodup:=by
 rw [cJ,List.map_map];have e:((fun x:MapEntry=>x.born) ∘ mO q)=id:=by funext i;rfl
 rw [e,List.map_id];exact h
theorem mR {a:Array MapEntry} {seen:Array Nat} {e:MapEntry} (h:e∈(Go.leftOf a seen).toList):(Go.leftOf a (seen.push e.born)).size < (Go.leftOf a seen).size:=by
 unfold Go.leftOf at h ⊢;have b:∀p:MapEntry→Bool,(a.filter p).size=(a.toList.filter p).length:=fun p=>by rw [←Array.toList_filter,Array.length_toList]
 rw [b,b];rw [Array.toList_filter,List.mem_filter] at h;refine filter_lt _ _ (fun x c=>?_) e h.2 ?_ a.toList h.1
 ·simp only [Array.contains_push,Bool.not_eq_true',Bool.or_eq_false_iff] at c ⊢;exact c.1
 ·simp
theorem iE {W:World} {r b c:Nat} {a:Option Nat} {s:Array Nat} (h:W.heap[r]? =some (.mapIter a b s c)):W.iterSeen r=s:=by
 unfold World.iterSeen;rw [h]
structure qO (w W:World) (base pb mb:Nat) (q:Nat→Nat) (vr:Value) (S:aa) (r:Nat) (seen:Array Nat):Prop where
 bag:bf base W pb mb q vr S
 it:W.heap[r]? =some (.mapIter (some mb) S.items.length seen S.items.length)
 touch:cE [158] w W
 below:Below base w W
theorem jO (W:World) (r:Nat) (o:Obj):aH r W (setBlock W r o):=
 ⟨by simp [setBlock],fun k a=>by simp [setBlock,Ne.symm a],⟨rfl,rfl,rfl⟩⟩
theorem rF {W:World} {r:Nat} (h:r < W.heap.size) (o:Obj):(setBlock W r o).heap[r]? =some o:=by simp [setBlock,h]
theorem ED {f:List TypeId} {a b c:World} {r:Nat} (h:cE f a b) (g:a.heap.size≤r) (d:aH r b c):cE f a c:=
 ⟨by rw [d.1];exact h.1,fun k o e n=>(d.2 k (by have:=ah e;omega)).trans (h.2 k o e n),h.3.trans d.3⟩
section
variable {w W:World} {base pb mb:Nat} {q:Nat→Nat} {vr:Value} {S:aa} {r:Nat} {seen:Array Nat}
theorem qO.step (h:qO w W base pb mb q vr S r seen) (m:w.heap.size≤r) (n:base≤w.heap.size) (d:Array Nat):qO w (setBlock W r (.mapIter (some mb) S.items.length d S.items.length)) base pb mb q vr S r d:=by
 have f:=jO W r (.mapIter (some mb) S.items.length d S.items.length);refine ⟨⟨aJ f h.bag.bag (fun e=>?_),aJ f h.bag.map (fun e=>?_),h.bag.pbb,h.bag.mbb,h.bag.one,fun i l=>?_⟩,rF (ah h.it) _,ED h.touch m f,h.below.trans (f.below (by omega))⟩
 ·have:=h.bag.bag;rw [e,h.it] at this;simp at this
 ·have:=h.bag.map;unfold fP at this;rw [e,h.it] at this;simp at this
 ·obtain ⟨a,v,x,b,c⟩:=h.bag.mail i l;refine ⟨a,v,x,aJ f b (fun e=>?_),ax c fun g j e _=>aJ f e fun k=>?_⟩
  ·unfold dD at b;rw [e,h.it] at b;simp at b
  ·rw [k,h.it] at e;simp at e
theorem qO.drew (h:qO w W base pb mb q vr S r seen):qO w W.drew base pb mb q vr S r seen:=
 ⟨h.bag.keep ((Below.refl _ _).drew),h.it,h.touch.trans (cE.below ((Below.refl _ _).drew)),h.below.drew⟩
theorem qO.put (h:qO w W base pb mb q vr S r seen) {i:Nat} (f:i∈S.live) (T:Int):qO w (W.setCell ⟨q i,4,none⟩ (.int .i64 T)) base pb mb q vr S r seen:=by
 have d:aH (q i) W (W.setCell ⟨q i,4,none⟩ (.int .i64 T)):=(aH.refl _ _).setCell _;obtain ⟨a,v,x,b,c⟩:=h.bag.mail i f;refine ⟨h.bag.dued f T,aJ d h.it (fun e=>?_),h.touch.same b (by simp) d,h.below.trans (d.below a)⟩;unfold dD at b;rw [←e,h.it] at b;simp at b
end
theorem mr (base pb mb:Nat) (q:Nat→Nat) (vr:Value) (S:aa) (w:World) (h:bf base w pb mb q vr S):
  Calls Tryz.prog 76 #[.pointer (some ⟨pb,0,none⟩)] w fun e w'=>e= .returned (.tuple #[])∧bf base w' pb mb q vr S∧cE [158] w w'∧Below base w w':=by
 have t:=h.le;have B:=run_range_map (P:=Tryz.prog) w 115 3 122 mb (cF q S.live) S.items.length Tryz.underlying115 h.map;have H:w.cell? ⟨pb,3,none⟩=some (.map (some mb)):=by rw [Lib.cell_of_heap h.bag];rfl
 have C:qO w (w.alloc (.mapIter (some mb) S.items.length #[] S.items.length)) base pb mb q vr S w.heap.size #[]:=
  have z:Below w.heap.size w (w.alloc (.mapIter (some mb) S.items.length #[] S.items.length)):=(Below.refl _ _).alloc (Nat.le_refl _) _
  ⟨h.keep z,heap_alloc_new w _,cE.below z,z.mono t⟩
 have k:=Lib.hid C;clear h C;go_enter Tryz.func76,Tryz.ntmps76;go_wp2_with fail
 obtain ⟨E,n⟩:∃E:World,w.alloc (.mapIter (some mb) S.items.length #[] S.items.length)=E:=⟨_,rfl⟩;rw [n] at k ⊢;clear n B H;go_loopw [] (fun w'=>∃seen:Array Nat,Hid (qO w w' base pb mb q vr S w.heap.size seen)) (fun w'=>(Go.leftOf (cF q S.live) (w'.iterSeen w.heap.size)).size)
 case atStart=>exact ⟨#[],k⟩
 case round=>
  obtain ⟨seen,c⟩:=hrel
  have I:=run_next_at (P:=Tryz.prog) wr 0 w.heap.size mb S.items.length S.items.length seen (cF q S.live) S.items.length c.out.it c.out.bag.map (fun x F=>by
   rw [cJ] at F;obtain ⟨i,s,rfl⟩:=List.mem_map.1 F
   exact bm s) (Nat.le_refl _)
  rcases I with ⟨_,a⟩ | ⟨e,A,G,u,a⟩
  ·go_wp2_with fail
   refine bodyPost_end (results_none rfl _ _ _) rfl ?_;exact ⟨rfl,c.out.bag,c.out.touch,c.out.below⟩
  ·obtain ⟨i,s,rfl⟩:=vP A;have j:=Lib.hid (mR A)
   have D:qO w G base pb mb q vr S w.heap.size seen:=by
    rcases u with rfl | rfl
    ·exact c.out
    ·exact c.out.drew
   have g:=D.step (Nat.le_refl _) t (seen.push (mO q i).born);obtain ⟨m,o⟩:∃m:World,setBlock G w.heap.size (.mapIter (some mb) S.items.length (seen.push (mO q i).born) S.items.length)=m:=⟨_,rfl⟩;rw [o] at a g;have p:=run_entry_at (P:=Tryz.prog) m w.heap.size mb S.items.length seen (cF q S.live) S.items.length (mO q i) g.it g.bag.map (by rw [cJ];exact List.mem_map.2 ⟨i,s,rfl⟩) (sj (iy S));have J:m.cell? ⟨pb,1,none⟩=some (.int .i64 S.time):=by rw [Lib.cell_of_heap g.bag.bag];rfl
   obtain ⟨_,v,x,b,_⟩:=g.bag.mail i s;have K:m.cell? ⟨q i,4,none⟩=some (.int .i64 x.1):=by rw [Lib.cell_of_heap b];rfl
   have L:=Lib.frozen_of_heap b 4;have l:=Lib.hid (g.put s S.time);have y:=Lib.hid c.out.it;have f:(mO q i).val= .pointer (some ⟨q i,0,none⟩):=rfl;have d:(mO q i).key= .int .i64 ((i:Int)+1):=rfl;rw [f,d] at a p;clear f d o D g b u A c;go_wp2_with fail
   exact ⟨⟨_,l⟩,by rw [iE l.out.it,iE y.out];exact j.out⟩
theorem qa (a b p:Nat) (q:Nat→Nat) (M s:Value) (S S':aa) (T r:Nat) (d:List Nat) (w:World) (h:bf a w b p q M S) (I:S.Ok) (B:Nat) (hp:w.ownsRow B 3 1 s d.length (aX d)) (c7:r≤4294967295) (h1:1≤d.length) (a6:d.length≤255) (hr:bC d=true) (hT:T≤1000000000) (hn:S.items.length < 4294967295) (hm:bu S r d=true) (a5:S.time≤T) (hS:S.takesF T r d=some S'):
  Calls Tryz.prog 119 #[.pointer (some ⟨b,0,none⟩),.int .i64 T,.agg #[.int .i64 r,s]] w fun e w'=>e= .returned (.bool true)∧∃q',bf a w' b p q' M S'∧dT b p q q' S S' w w'∧∀D,iM w q S.live D→iM w' q' S'.live (rb S.items.length T D):=by
 obtain ⟨V,G⟩:∃V:World,w.alloc (.cells #[.int .i64 r,s] 193)=V:=⟨_,rfl⟩;have B0:Below w.heap.size w V:=by rw [←G];exact (Below.refl _ _).alloc (Nat.le_refl _) _
 have A0:bf a V b p q M S:=h.keep B0;have X0:V.heap[w.heap.size]? =some (.cells #[.int .i64 r,s] 193 (0,0)):=by rw [←G];exact heap_alloc_new w _
 have O0:=ax hp fun g P e _=>ae B0 e;have HM:=Lib.hid (jK a b p q M s S r d V A0 I (aC O0) c7 h1 a6 (by omega));rw [hm] at HM;have HH:=Lib.hid h;have a2:=Lib.hid hS;have A:=Lib.hid (jP hr hm a5);have a0:=Lib.hid (jt hr hm);rw [dv h1,Bool.and_eq_true,decide_eq_true_eq] at hm;obtain ⟨⟨c6,f⟩,_⟩:=hm;have a8:=Lib.hid A0;have Y:=Lib.hid B0;have b7:=Lib.hid G;have c0:=Lib.hid X0;have b3:=Lib.hid O0;have c8:b < w.heap.size:=h.pblt;clear A0 B0 G X0 hp h O0 hS;go_enter Tryz.func119,Tryz.ntmps119;go_wp2_with fail
 rw [b7.out];refine HM.out.mono ?_;rintro e R ⟨rfl,k⟩;have x0:=ae k c0.out;have y0:R.cell? ⟨w.heap.size,0,none⟩=some (.int .i64 r):=by rw [Lib.cell_of_heap x0];rfl
 have y1:R.cell? ⟨w.heap.size,1,none⟩=some s:=by rw [Lib.cell_of_heap x0];rfl
 have c2:=Lib.hid x0;have A2:=a8.out.keep k;have c1:R.cell? ⟨b,1,none⟩=some (.int .i64 S.time):=by rw [Lib.cell_of_heap A2.bag];rfl
 have g1:R.frozen? ⟨b,1,none⟩=false:=Lib.frozen_of_heap A2.bag 1;have u:=Lib.hid A2;have O2:=Lib.hid (ax b3.out fun g P e _=>ae k e);have B2:=Lib.hid (Y.out.trans (k.mono Y.out.size));clear x0 k A2;obtain ⟨K,rfl⟩:∃K,r=K+1:=⟨r - 1,by omega⟩
 rw [Nat.add_sub_cancel] at A a0 f;have d2:¬T < S.time:=by omega
 clear a5;go_wp2_with fail
 obtain ⟨j,J⟩:∃j:World,R.setCell ⟨b,1,none⟩ (.int .i64 T)=j:=⟨_,rfl⟩;rw [J];have S3:aH b R j:=by rw [←J];exact (aH.refl _ _).setCell _
 have P3:j.heap[b]? =some (.cells #[M,.int .i64 T,.int .i64 S.items.length,.map (some p)] 117 (0,0)):=by
  rw [←J];exact heap_setCell_same R b 1 _ _ (.int .i64 T) u.out.bag
 have U:bf a j.drew b p q M ⟨S.items,T⟩:=(u.out.timed S3 P3).keep ((Below.refl _ _).drew);have X3:j.drew.heap[w.heap.size]? =some (.cells #[.int .i64 ((K:Int)+1),s] 193 (0,0)):=aJ S3 c2.out (by omega);have O3:j.drew.ownsRow B 3 1 s d.length (aX d):=ax O2.out fun g P e _=>aJ S3 e fun e'=>by rw [e',u.out.bag] at e;simp at e
 have c3:j.drew.cell? ⟨b,3,none⟩=some (.map (some p)):=by rw [Lib.cell_of_heap U.bag];rfl
 have z0:j.drew.cell? ⟨w.heap.size,0,none⟩=some (.int .i64 ((K:Int)+1)):=by rw [Lib.cell_of_heap X3];rfl
 have z1:j.drew.cell? ⟨w.heap.size,1,none⟩=some s:=by rw [Lib.cell_of_heap X3];rfl
 have a3:=bm f
 have d1:(Instr.lookup 115 (.map (some p)) (.int .i64 ((K:Int)+1)) false).run Tryz.prog j.drew= .ok (.pointer (some ⟨q K,0,none⟩)) j.drew:=
  gQ (t:=115) (e:=122) fJ Tryz.underlying115 U.map (fun i n=>by have:=bm n;simp only at this;omega) K (by omega) f false
 obtain ⟨_,v,_,hb,_⟩:=U.mail K f;have m1:j.drew.cell? ⟨q K,1,none⟩=some (.string (bs (S.mailOf K).frm)):=by rw [Lib.cell_of_heap hb];rfl
 have b2:=Lib.hid (lV a b p q M s ⟨S.items,T⟩ K d j.drew U (I.time T) (aC O3) f a6 (by show S.items.length≤_;omega));have C:=Lib.hid (wv (T:=T) u.out (S3.drew));have a9:=Lib.hid U;have z:=Lib.hid f;have a1:Hid (dq (S.mailOf K)):=Lib.hid (by rw [bR a3];exact (I.sz _ (List.getElem_mem a3)).1);have b5:=Lib.hid (dp I K);clear J S3 P3 U X3 O3 hb y0 y1 c1 g1 c6 f;obtain ⟨F,eF⟩:∃F,(S.mailOf K).frm=F:=⟨_,rfl⟩;rw [eF] at m1 A;go_region
 all_goals
  go_wp2_with fail
  refine b2.out.mono ?_;rintro e c ⟨vn,rfl,a7,A4,K4,X4⟩
  have c4:c.drew.cell? ⟨b,2,none⟩=some (.int .i64 (S.items.length:Int)):=by
   show c.cell? _=_;rw [Lib.cell_of_heap A4.bag,bF];rfl
  have c5:∀o:Obj,(c.alloc o).cell? ⟨b,2,none⟩=some (.int .i64 (S.items.length:Int)):=fun o=>by
   have:=ae ((Below.refl _ c).alloc (Nat.le_refl _) o) A4.bag;rw [Lib.cell_of_heap this,bF];rfl
  have b6:=Lib.hid a7;have y:=Lib.hid A4;have E:=Lib.hid (sX a9.out z.out K4 X4 (ps:=d));clear a7 A4 K4 X4
  by_cases Q:F=[]
  ·have tF:(bs F).toList.isEmpty=true:=by rw [Lib.toList_data,Q];rfl
   have HR:=Lib.hid (A.out.1 Q);clear Q;go_wp2_with fail
   go_ret;have ES:=Option.some.inj (a2.out.symm.trans HR.out);subst ES;exact ⟨rfl,q,y.out,dT.after HH.out B2.out (C.out.1.trans E.out.1),fun D hd=>(E.out.2.due (fun i n=>gE z.out n) (C.out.2.due (fun _ n=>n) (hd.below B2.out))).new (fun i n=>bm (gE z.out n))⟩
  ·have tF:(bs F).toList.isEmpty=false:=by
    rw [Lib.toList_data]
    cases F with
    | nil=>exact absurd rfl Q
    | cons x l=>rfl
   have HR:=Lib.hid (A.out.2 Q);have d3:IntKind.i64.wrap ((S.items.length:Int)+1)=(S.items.length:Int)+1:=by rw [IntKind.wrap_i64];omega
   obtain ⟨N,eN⟩:∃N,di (S.stayOf K) d=N:=⟨_,rfl⟩;have c9:N.length≤10:=by rw [←eN];have:=mf (S.stayOf K) d;have:=b5.out;omega
   have a4:∀t∈N,t.length≤255:=by
    intro t ht;rw [←eN,a0.out,List.mem_map] at ht;obtain ⟨i,_,rfl⟩:=ht;exact mP a1.out.2.2.2.2.1 i
   have d0:=lh N a4;have L:c.ownsRow j.drew.heap.size 9 1 vn N.length (az N):=by rw [←eN];exact b6.out
   have b4:Hid (∀W:World,Below c.heap.size c W→Calls Tryz.prog 170 #[vn] W fun e w'=>e= .returned (.string (bs (fu N)))∧W=w'):=Lib.hid (fun W hW=>mD N vn W (aC (ax L fun g P e _=>ae hW e)) (by omega) a4);obtain ⟨X,H⟩:∃X:World,(c.alloc (.cells #[.string (bs F)] 9)).drew=X:=⟨_,rfl⟩;have B5:Below c.heap.size c X:=by rw [←H];exact ((Below.refl _ _).alloc (Nat.le_refl _) _).drew
   have X5:X.heap[c.heap.size]? =some (.cells #[.string (bs F)] 9 (0,0)):=by rw [←H];exact heap_alloc_new c _
   have O5:X.ownsRow c.heap.size 9 1 (.slice (some ⟨c.heap.size,0,none⟩) 1 1) 1 (az [F]):=
    ⟨rfl,.inr ⟨c.heap.size,1,_,rfl,Nat.le_refl _,X5,Nat.le_refl _,by unfold maxLen;omega,rfl,rfl⟩⟩
   have b1:=Lib.hid (qm a b p q M (aa.outs ⟨S.items,T⟩ K d) ⟨S.items.length+1,T,[],[F],fu N⟩ (.slice (some ⟨c.heap.size,0,none⟩) 1 1) X (y.out.keep B5) c.heap.size O5
    ⟨by show S.items.length+1≤_;omega,by show T≤_;omega,by simp,by simp,fun t ht=>by simp at ht;subst ht;rw [←eF];exact a1.out.2.2.1,by show (fu N).length≤_;omega⟩ (by rw [bF]) (by simp) (by rw [bF];exact hn))
   have O:=Lib.hid B5;have b8:=Lib.hid H;have HF:=Lib.hid Q;rw [eN] at HR;clear Q eF B5 X5 O5 L H eN;go_wp2_with fail
   go_region_law (first
    | (go_simp;go_at_call 170;refine (b4.out _ (by first | exact (Below.refl _ _).drew | exact ((Below.refl _ _).alloc (Nat.le_refl _) _).drew | exact ((Below.refl _ _).drew).alloc (Nat.le_refl _) _)).mono ?_;rintro e w5 ⟨rfl,rfl⟩)
    | (go_simp;go_at_call 166;rw [b8.out];refine b1.out.mono ?_;rintro e w6 ⟨rfl,q',A6,K6,O6,Q6,N6⟩;have b0:=Lib.hid A6;have Z:=Lib.hid (yv (m:=⟨S.items.length+1,T,[],[F],fu N⟩) (y.out.keep O.out) (Nat.le_refl 1) K6 O6 Q6 N6);clear A6 K6 O6 Q6 N6))
   all_goals
    go_wp2_with fail
    go_ret;have ES:=Option.some.inj (a2.out.symm.trans HR.out);subst ES;refine ⟨rfl,_,b0.out,(dT.after HH.out B2.out (C.out.1.trans E.out.1)).trans (dT.after y.out O.out Z.out.1),fun D hd=>?_⟩;have d4:=E.out.2.due (fun i n=>gE z.out n) (C.out.2.due (fun _ n=>n) (hd.below B2.out));have d6:=Z.out.2 D (d4.below O.out);rw [bF] at d6;exact d6
end Go.Proofs.YtofpegbpgkkgkaaGreatDoor
