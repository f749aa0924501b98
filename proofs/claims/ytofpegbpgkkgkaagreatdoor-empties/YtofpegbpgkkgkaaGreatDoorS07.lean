import Derived.Test.YtofpegbpgkkgkaaGreatDoorS06
namespace Go.Proofs.YtofpegbpgkkgkaaGreatDoor
set_option maxHeartbeats 8000000
set_option maxRecDepth 1000000
open Go.RowKit
theorem GU (P:Nat) (T:List UInt8) (b a:Nat) (w:World) (c:w.cell? ⟨b,0,none⟩=some (.int .i64 a)):
  Calls Tryz.prog 258 #[.agg #[.int .i64 P,.string (bs T)],.pointer (some ⟨b,0,none⟩)] w fun e g=>e= .returned (.bool (decide (P=a)))∧Below w.heap.size w g:=by
 have f:∀o:Obj,(w.alloc o).cell? ⟨b,0,none⟩=some (.int .i64 a):=fun o=>by
  rw [((Below.refl _ w).alloc (Nat.le_refl _) o).cell (show b < w.heap.size from aC c)];exact c
 go_enter Tryz.func258,Tryz.ntmps258;go_wp2_with fail
 go_ret;have d:((P:Int) == (a:Int))=decide (P=a):=by rw [Bool.eq_iff_iff];simp only [beq_iff_eq,decide_eq_true_eq];omega
 exact ⟨by rw [←d];rfl,(Below.refl _ w).alloc (Nat.le_refl _) _⟩
theorem wu {l:List (Nat×List UInt8)} {p:Nat×List UInt8→Bool} {k:Nat} (h:k < l.length) (a:(l.take k).any p=false) (b:p l[k]=false):(l.take (k+1)).any p=false:=by
 rw [List.take_succ_eq_append_getElem h,List.any_append,a];simp [b]
theorem I3 {l:List (Nat×List UInt8)} {p:Nat×List UInt8→Bool} {k:Nat} (h:k < l.length) (a:p l[k]=true):l.any p=true:=List.any_eq_true.2 ⟨_,List.getElem_mem h,a⟩
theorem wJ (q:Nat) (l:List (Nat×List UInt8)) (v:Value) (y d:Nat) (w:World) (F:w.ownsRow q 162 2 v l.length (aR l)) (O:w.cell? ⟨y,0,none⟩=some (.int .i64 d)) (hl:l.length≤255):
  Calls Tryz.prog 282 #[v,.func (.func 258) #[] #[.pointer (some ⟨y,0,none⟩)]] w fun e G=>∃r:Int,e= .returned (.int .i64 r)∧(-1≤r∧r≤255)∧decide (0≤r)=l.any (fun x=>decide (x.1=d))∧Below w.heap.size w G:=by
 have U:=Lib.hid F;have H:=Lib.hid O
 obtain ⟨V,Z,rfl⟩:∃a c,v= .slice a l.length c:=by
  rcases F.2 with ⟨e,M⟩ | ⟨g,W,D,e,_⟩
  ·exact ⟨_,_,by rw [M];exact e⟩
  ·exact ⟨_,_,e⟩
 obtain ⟨s,S⟩:∃s,w.heap.size=s:=⟨_,rfl⟩;have h:=Lib.hid S;clear F S O;go_enter Tryz.func282,Tryz.ntmps282;go_wp2_with fail
 go_loopw [5,8] (fun _ i G=>∃k:Nat,k≤l.length∧i= .int .i64 k∧Hid ((l.take k).any (fun x=>decide (x.1=d))=false)∧Hid (Below s w G)) (fun _ i _=>l.length - (intOf i).toNat)
 case atStart=>exact ⟨0,Nat.zero_le _,rfl,Lib.hid rfl,Lib.hid (by rw [←h.out];exact Below.refl _ _)⟩
 case round=>
  obtain ⟨k,hk,rfl,z,m⟩:=hrel
  by_cases j:k < l.length
  ·have R:(k:Int) < (l.length:Int):=by omega
   obtain ⟨g,rfl,B,C⟩:∃g,V=some ⟨g,0,none⟩∧w.cell? ⟨g,k * 2,none⟩=some (.int .i64 (l[k].1:Int))∧w.cell? ⟨g,k * 2+1,none⟩=some (.string (bs l[k].2)):=by
    rcases U.out.2 with ⟨_,M⟩ | ⟨g,Y,D,e,_,Q,_,_,_,u⟩
    ·omega
    ·injection e with e1 _ _;refine ⟨g,e1,?_,?_⟩
     ·rw [Lib.cell_of_heap Q,←Array.getElem?_toList,←List.getElem?_take_of_lt (show k * 2 < l.length * 2 by omega),u];exact (dP l k j).1
     ·rw [Lib.cell_of_heap Q,←Array.getElem?_toList,←List.getElem?_take_of_lt (show k * 2+1 < l.length * 2 by omega),u];exact (dP l k j).2
   have I:wr.cell? ⟨g,k * 2,none⟩=some (.int .i64 (l[k].1:Int)):=(m.out.cell (by show g < s;rw [←h.out];exact aC B)).trans B;have J:wr.cell? ⟨g,k * 2+1,none⟩=some (.string (bs l[k].2)):=(m.out.cell (by show g < s;rw [←h.out];exact aC C)).trans C;have K:wr.cell? ⟨y,0,none⟩=some (.int .i64 d):=(m.out.cell (by show y < s;rw [←h.out];exact aC H.out)).trans H.out;have p:Hid (∀b:Bool,decide (l[k].1=d)=b→(b=true→l.any (fun x=>decide (x.1=d))=true)∧(b=false→(l.take (k+1)).any (fun x=>decide (x.1=d))=false)):=Lib.hid (fun b N=>⟨fun e=>I3 j (by rw [N,e]),fun e=>wu j z.out (by rw [N,e])⟩);obtain ⟨x,L⟩:∃x,l[k]=x:=⟨_,rfl⟩;rw [L] at I J p;obtain ⟨P,T⟩:=x;simp only at I J;have f:=Lib.hid (GU P T y d wr K);have t:s≤wr.heap.size:=by have:=m.out.size;have:=h.out;omega
   clear L B C K z
   cases o:decide (P=d) with
   | true=>
    have A:=Lib.hid ((p.out true o).1 rfl);rw [o] at f;clear p o;go_wp2_with (first | (go_at_call 258;refine f.out.mono ?_;rintro e X ⟨rfl,n⟩) | fail)
    go_ret;exact ⟨_,rfl,by omega,by rw [A.out];simp,by rw [h.out];exact m.out.trans (n.mono t)⟩
   | false=>
    have A:=Lib.hid ((p.out false o).2 rfl);rw [o] at f;clear p o;go_wp2_with (first | (go_at_call 258;refine f.out.mono ?_;rintro e X ⟨rfl,n⟩) | fail)
    exact ⟨⟨k+1,by omega,by go_num,A,Lib.hid (m.out.trans (n.mono t))⟩,by simp [intOf];omega⟩
  ·have E:k=l.length:=by omega
   subst E;rw [List.take_length] at z;go_wp2_with fail
   go_ret;exact ⟨_,rfl,by omega,by rw [z.out];rfl,by rw [h.out];exact m.out⟩
theorem qJ (b:Nat) (l:List (Nat×List UInt8)) (v:Value) (c a:Nat) (w:World) (h:w.ownsRow b 162 2 v l.length (aR l)) (d:w.cell? ⟨c,0,none⟩=some (.int .i64 a)) (m:l.length≤255):
  Calls Tryz.prog 257 #[v,.func (.func 258) #[] #[.pointer (some ⟨c,0,none⟩)]] w fun e i=>e= .returned (.bool (l.any (fun x=>decide (x.1=a))))∧Below w.heap.size w i:=by
 have g:=wJ b l v c a w h d m;clear h d;go_enter Tryz.func257,Tryz.ntmps257;go_wp2_with fail
 refine g.mono ?_;rintro e i ⟨r,rfl,n,f,k⟩;have j:=Lib.hid f;clear f g;go_wp2_with fail
 go_ret;exact ⟨by rw [←j.out];rfl,k⟩
theorem CK (u q I:Nat) (O E:List UInt8) (v vp:Value) (l:List (Nat×List UInt8)) (f:List Nat) (x:Int×Int) (w:World) (h:dL w q I O v E x) (V:w.ownsRow u 162 2 v l.length (aR l)) (hp:bg w vp f.length 1 (aZ f)) (hl:l.length≤255) (a0:f.length≤255):
  Calls Tryz.prog 222 #[.pointer (some ⟨q,0,none⟩),vp] w fun e X=>e= .returned (.bool (f.all fun x=>l.any fun r=>decide (r.1=x)))∧Below w.heap.size w X:=by
 obtain ⟨a,M,rfl,G⟩:=hp.one;have HV:=Lib.hid V;have HC:=Lib.hid G;have HH:=Lib.hid h
 obtain ⟨av,cv,rfl⟩:∃a c,v= .slice a l.length c:=by
  rcases V.2 with ⟨e,h0⟩ | ⟨g,M,N,e,_⟩
  ·exact ⟨_,_,by rw [h0];exact e⟩
  ·exact ⟨_,_,e⟩
 obtain ⟨s,T⟩:∃s,w.heap.size=s:=⟨_,rfl⟩;have m:=Lib.hid T;have S:q < s:=by rw [←T];exact sZ h
 clear V T G h hp;go_enter Tryz.func222,Tryz.ntmps222;go_wp2_with fail
 go_loopw [6,9] (fun _ i X=>∃k:Nat,k≤f.length∧i= .int .i64 k∧Hid ((f.take k).all (fun x=>l.any fun r=>decide (r.1=x))=true)∧Hid (Below s w X)) (fun _ i _=>f.length - (intOf i).toNat)
 case atStart=>exact ⟨0,Nat.zero_le _,rfl,Lib.hid rfl,Lib.hid (by rw [←m.out];exact Below.refl _ _)⟩
 case round=>
  obtain ⟨k,hk,rfl,J,B⟩:=hrel
  by_cases p:k < f.length
  ·have Z:(k:Int) < (f.length:Int):=by omega
   obtain ⟨b,W,rfl,Q,j⟩:=HC.out k p;rw [lY f k p] at j;have d0:wr.cell? ⟨b,W+k,none⟩=some (.int .i64 (f[k]:Int)):=(B.out.cell (by show b < s;rw [←m.out];exact Q)).trans j
   have D:Hid (∀c:Bool,l.any (fun r=>decide (r.1=f[k]))=c→(c=true→(f.take (k+1)).all (fun x=>l.any fun r=>decide (r.1=x))=true)∧(c=false→f.all (fun x=>l.any fun r=>decide (r.1=x))=false)):=Lib.hid (fun c G=>⟨fun e=>by
     rw [List.take_succ_eq_append_getElem p,List.all_append,J.out];simp only [List.all_cons,List.all_nil,Bool.and_true,Bool.true_and];rw [G,e],fun e=>by
     rw [List.all_eq_false]
     exact ⟨f[k],List.getElem_mem p,by rw [G,e];simp⟩⟩)
   obtain ⟨P,Y⟩:∃P,f[k]=P:=⟨_,rfl⟩;rw [Y] at d0 D;obtain ⟨t,n⟩:∃t:World,wr.alloc (.cells #[.int .i64 P] 3)=t:=⟨_,rfl⟩;have y:Below wr.heap.size wr t:=by rw [←n];exact (Below.refl _ _).alloc (Nat.le_refl _) _
   have F:t.heap[wr.heap.size]? =some (.cells #[.int .i64 P] 3 (0,0)):=by rw [←n];exact heap_alloc_new wr _
   have p0:t.cell? ⟨wr.heap.size,0,none⟩=some (.int .i64 P):=by rw [Lib.cell_of_heap F];rfl
   have U:s≤wr.heap.size:=by have:=B.out.size;have:=m.out;omega
   have K:Hid (Below s w t):=Lib.hid (B.out.trans (y.mono U))
   have k2:∀o:Obj,(wr.alloc o).cell? ⟨q,2,none⟩=some (.slice av l.length cv):=fun o=>by
    have:=ae (w:=wr) ((Below.refl _ wr).alloc (Nat.le_refl _) o) (show wr.heap[q]? =some _ from (B.out.block q S).trans HH.out);rw [Lib.cell_of_heap this];rfl
   have d:=Lib.hid (qJ u l _ wr.heap.size P t (aA HV.out fun g N e _=>ae (by rw [m.out];exact K.out) e) p0 hl);have H:s≤t.heap.size:=by have:=y.size;omega
   have C:=Lib.hid n;clear n y F p0 Y j J
   cases A:l.any (fun r=>decide (r.1=P)) with
   | true=>
    have L:=Lib.hid ((D.out true A).1 rfl);rw [A] at d;clear D A;go_wp2_with fail
    rw [C.out];refine d.out.mono ?_;rintro e w2 ⟨rfl,z⟩;go_wp2_with fail
    exact ⟨⟨k+1,by omega,by go_num,L,Lib.hid (K.out.trans (z.mono H))⟩,by simp [intOf];omega⟩
   | false=>
    have L:=Lib.hid ((D.out false A).2 rfl);rw [A] at d;clear D A;go_wp2_with fail
    rw [C.out];refine d.out.mono ?_;rintro e w2 ⟨rfl,z⟩;go_wp2_with fail
    go_ret;exact ⟨by rw [L.out];rfl,by rw [m.out];exact K.out.trans (z.mono H)⟩
  ·have R:k=f.length:=by omega
   subst R;rw [List.take_length] at J;go_wp2_with fail
   go_ret;exact ⟨by rw [J.out];rfl,by rw [m.out];exact B.out⟩
def fM (w:World) (pb mb:Nat) (q:Nat→Nat) (S:aa) (k:Nat):Prop:=
 k=pb∨k=mb∨∃i∈S.live,k=q i∨∃C z,w.heap[q i]? =some (.cells C 158 z)∧(C.getD 2 undef).ownBlock=some k
theorem fM.keep {w d:World} {c b:Nat} {q:Nat→Nat} {S:aa} (h:∀i∈S.live,d.heap[q i]? =w.heap[q i]?) {k:Nat} (j:fM d c b q S k):fM w c b q S k:=by
 rcases j with e | e | ⟨i,a,e | ⟨C,z,f,g⟩⟩
 ·exact .inl e
 ·exact .inr (.inl e)
 ·exact .inr (.inr ⟨i,a,.inl e⟩)
 ·exact .inr (.inr ⟨i,a,.inr ⟨C,z,by rw [←h i a];exact f,g⟩⟩)
theorem yA {l g d:Nat} {q:Nat→Nat} {F:Value} {S:aa} {w s j p:World} (B:bh l w g d q F S) (G:Below w.heap.size w s) (h:bh l s g d q F S) {m:aX} {Q:Nat} {v:Value} {x:Int×Int} (A:aL g s j) (_:j.heap[g]? =some (.cells #[F,.int .i64 m.time,.int .i64 ((S.items.length:Int)+1),.map (some d)] 117 (0,0)))
  (H:Below j.heap.size j p) (P:j.heap.size≤Q) (y:dL p Q m.time m.frm v m.body x) (N:p.ownsRow j.heap.size 162 2 v m.tos.length (aR (stay m.tos (List.replicate m.tos.length false)))) (O:1≤m.tos.length):
  aH (fun k=>k=g∨k=d) w (ChangeMaps.setBlock p d (.map (cO (fun i=>if i=S.items.length then Q else q i) (S.live++[S.items.length])) (S.items.length+1)))∧∀k,fM (ChangeMaps.setBlock p d (.map (cO (fun i=>if i=S.items.length then Q else q i) (S.live++[S.items.length])) (S.items.length+1))) g d (fun i=>if i=S.items.length then Q else q i) (S.plus m) k→fM w g d q S k∨w.heap.size≤k:=by
 have t:j.heap[d]? =some (.map (cO q S.live) S.items.length):=aP A h.map (fun e=>by have:=h.map;unfold gh at this;rw [e,h.bag] at this;simp at this);have o:p.heap[d]? =some (.map (cO q S.live) S.items.length):=ae H t;have I:=gd o (.map (cO (fun i=>if i=S.items.length then Q else q i) (S.live++[S.items.length])) (S.items.length+1));have L:j.heap.size=s.heap.size:=A.1;have J:=G.size
 have K:aH (fun k=>k=g∨k=d) w (ChangeMaps.setBlock p d (.map (cO (fun i=>if i=S.items.length then Q else q i) (S.live++[S.items.length])) (S.items.length+1))):=
  (((aH.below G:aH (fun k=>k=g∨k=d) w s).trans (aH.same A) (fun _ _ e=> .inl e)).trans (aH.below H:aH (fun _=>False) _ _) (fun k _ e=>e.elim)).trans (aH.same I) (fun _ _ e=> .inr e)
 refine ⟨K,fun k r=>?_⟩
 rcases r with e | e | ⟨i,n,r⟩
 ·exact .inl (.inl e)
 ·exact .inl (.inr (.inl e))
 ·rw [lz O] at n;simp only [List.mem_append,List.mem_singleton] at n
  rcases n with n | rfl
  ·have E:i≠S.items.length:=by have:=bq n;omega
   obtain ⟨a,R,T,b,c⟩:=B.mail i n
   have M:=K.some_ b (fun e=>by
    unfold dL at b
    rcases e with e | e
    ·rw [e,B.bag] at b;simp at b
    ·have:=B.map;unfold gh at this;rw [e,this] at b;simp at b)
   simp only [if_neg E] at r
   rcases r with e | ⟨C,z,f,u⟩
   ·exact .inl (.inr (.inr ⟨i,n,.inl e⟩))
   ·refine .inl (.inr (.inr ⟨i,n,.inr ⟨C,z,?_,u⟩⟩));rw [M] at f;rw [←f];exact b
  ·simp only [if_true] at r
   right
   rcases r with e | ⟨C,z,f,u⟩
   ·omega
   ·have D:=aP I y (fun e=>by unfold dL at y;rw [e,o] at y;simp at y);rw [D] at f;injection f with f;injection f with f _ _;rw [←f] at u;have:=N.lt k u;omega
theorem wy {c k f:Nat} {q:Nat→Nat} {n:Value} {S:aa} {l b j:World} (h:bh c l k f q n S) {m:aX} {Q:Nat} {v:Value} {x:Int×Int} (o:aL k l b) (_:b.heap[k]? =some (.cells #[n,.int .i64 m.time,.int .i64 ((S.items.length:Int)+1),.map (some f)] 117 (0,0)))
  (p:Below b.heap.size b j) (_:b.heap.size≤Q) (g:dL j Q m.time m.frm v m.body x):
  dL (ChangeMaps.setBlock j f (.map (cO (fun i=>if i=S.items.length then Q else q i) (S.live++[S.items.length])) (S.items.length+1))) Q m.time m.frm v m.body x:=by
 have d:b.heap[f]? =some (.map (cO q S.live) S.items.length):=aP o h.map (fun e=>by have:=h.map;unfold gh at this;rw [e,h.bag] at this;simp at this);have a:j.heap[f]? =some (.map (cO q S.live) S.items.length):=ae p d;exact aP (gd a _) g (fun e=>by unfold dL at g;rw [e,a] at g;simp at g)
theorem rA (f a l:Nat) (q:Nat→Nat) (C:Value) (S:aa) (m:aX) (v:Value) (w:World) (h:bh f w a l q C S) (B:Nat) (Y:w.ownsRow B 9 1 v m.tos.length (aB m.tos)) (Z:dQ m) (z:m.id=S.items.length+1) (X:1≤m.tos.length) (hn:S.items.length < 4294967295):
  Calls Tryz.prog 166 #[.pointer (some ⟨a,0,none⟩),.agg (aY m v)] w fun e I=>e= .returned (.tuple #[])∧∃H,bh f I a l H C (S.plus m)∧aH (fun k=>k=a∨k=l) w I∧(∀k,fM I a l H (S.plus m) k→fM w a l q S k∨w.heap.size≤k)∧(∀i∈S.live,H i=q i)∧∃v',dL I (H S.items.length) m.time m.frm v' m.body (m.time,0):=by
 have K:=Lib.hid h;have HV:=Lib.hid Y;have HZ:=Lib.hid Z;have c:∀o:Obj,(w.alloc o).heap[a]? =some (.cells #[C,.int .i64 S.time,.int .i64 S.items.length,.map (some l)] 117 (0,0)):=fun o=>ae ((Below.refl _ w).alloc (Nat.le_refl _) o) h.bag;have c1:∀o:Obj,(w.alloc o).cell? ⟨a,1,none⟩=some (.int .i64 S.time):=fun o=>by rw [Lib.cell_of_heap (c o)];rfl
 have c2:∀o:Obj,(w.alloc o).cell? ⟨a,2,none⟩=some (.int .i64 S.items.length):=fun o=>by rw [Lib.cell_of_heap (c o)];rfl
 have c3:∀o:Obj,(w.alloc o).cell? ⟨a,3,none⟩=some (.map (some l)):=fun o=>by rw [Lib.cell_of_heap (c o)];rfl
 have f1:∀o:Obj,(w.alloc o).frozen? ⟨a,1,none⟩=false:=fun o=>Lib.frozen_of_heap (c o) 1;have f2:∀o:Obj,(w.alloc o).frozen? ⟨a,2,none⟩=false:=fun o=>Lib.frozen_of_heap (c o) 2;have a0:=Lib.hid c;obtain ⟨s,W⟩:∃s,w.heap.size=s:=⟨_,rfl⟩;have R:a≠s:=by have:=h.pblt;omega
 have N:=Lib.hid W;unfold aY;have y:=Lib.hid z;clear h Y Z c W z;go_enter Tryz.func166,Tryz.ntmps166;go_wp2_with fail
 obtain ⟨b,r⟩:∃b:World,(((w.alloc (.cells #[.int .i64 m.id,.int .i64 m.time,.string (bs m.frm),v,.string (bs m.body)] 45)).setCell ⟨a,2,none⟩ (.int .i64 m.id)).setCell ⟨a,1,none⟩ (.int .i64 m.time))=b:=⟨_,rfl⟩;rw [r];obtain ⟨t,j⟩:∃t:World,w.alloc (.cells #[.int .i64 m.id,.int .i64 m.time,.string (bs m.frm),v,.string (bs m.body)] 45)=t:=⟨_,rfl⟩;have D:Below w.heap.size w t:=by rw [←j];exact (Below.refl _ _).alloc (Nat.le_refl _) _
 have J:bh f t a l q C S:=K.out.keep D;have V:t.heap[w.heap.size]? =some (.cells #[.int .i64 m.id,.int .i64 m.time,.string (bs m.frm),v,.string (bs m.body)] 45 (0,0)):=by rw [←j];exact heap_alloc_new w _
 have E:aL a t b:=by rw [←r,j];exact ((aL.refl a t).setCell _).setCell _
 have P:b.heap[a]? =some (.cells #[C,.int .i64 m.time,.int .i64 ((S.items.length:Int)+1),.map (some l)] 117 (0,0)):=by
  rw [←r,j];have:=heap_setCell_same _ a 1 _ _ (.int .i64 m.time) (heap_setCell_same t a 2 _ _ (.int .i64 m.id) J.bag);refine Eq.trans this ?_;rw [y.out];rfl
 have u:b.heap[w.heap.size]? =some (.cells #[.int .i64 m.id,.int .i64 m.time,.string (bs m.frm),v,.string (bs m.body)] 45 (0,0)):=aP E V (by rw [N.out];exact fun e=>R e.symm);have d3:b.drew.cell? ⟨a,3,none⟩=some (.map (some l)):=by show b.cell? _=_;rw [Lib.cell_of_heap P];rfl
 have e0:b.drew.cell? ⟨w.heap.size,0,none⟩=some (.int .i64 m.id):=by show b.cell? _=_;rw [Lib.cell_of_heap u];rfl
 have e1:b.drew.cell? ⟨w.heap.size,1,none⟩=some (.int .i64 m.time):=by show b.cell? _=_;rw [Lib.cell_of_heap u];rfl
 have e2:b.drew.cell? ⟨w.heap.size,2,none⟩=some (.string (bs m.frm)):=by show b.cell? _=_;rw [Lib.cell_of_heap u];rfl
 have e3:b.drew.cell? ⟨w.heap.size,3,none⟩=some v:=by show b.cell? _=_;rw [Lib.cell_of_heap u];rfl
 have e4:b.drew.cell? ⟨w.heap.size,4,none⟩=some (.string (bs m.body)):=by show b.cell? _=_;rw [Lib.cell_of_heap u];rfl
 have A:bg b.drew v m.tos.length 1 (aB m.tos):=aF (aA HV.out fun g a1 e _=>aP (E.drew) (ae D e) (fun e'=>by rw [e',K.out.bag] at e;simp at e));have M:=Lib.hid (rN m v b.drew A HZ.out);have d:=Lib.hid (show b.drew.heap[a]? =_ from P);have p:=Lib.hid E.drew;have n:=Lib.hid J;have O:=Lib.hid (show b.drew.heap[w.heap.size]? =_ from u);have L:=Lib.hid D;clear c1 c2 c3 f1 f2 r j P E J u V D A
 go_region_law (first
  | (go_simp;go_at_call 220;refine M.out.mono ?_;rintro e w2 ⟨Q,g,rfl,F,G,T,x⟩;have a2:w2.cell? ⟨a,3,none⟩=some (.map (some l)):=(by rw [Lib.cell_of_heap (ae x d.out)];rfl);have a3:w2.cell? ⟨w.heap.size,0,none⟩=some (.int .i64 m.id):=(by rw [Lib.cell_of_heap (ae x O.out)];rfl);have a4:=D7 (Q:=Q) n.out p.out d.out x y.out hn;have HR:=Lib.hid (n.out.added p.out d.out x G F T X);have U:=Lib.hid (yA K.out L.out n.out p.out d.out x G F T X);have HN:=Lib.hid (wy n.out p.out d.out x G F);clear F G T x))
 all_goals
  refine bodyPost_end (results_none rfl _ _ _) rfl ?_;exact ⟨rfl,_,HR.out,U.out.1,U.out.2,fun i hi=>if_neg (by have:=bq hi;omega),_,by rw [if_pos rfl];exact HN.out⟩
theorem cR {a d c:Nat} {q:Nat→Nat} {l:Value} {S:aa} {w e:World} (h:bh a w d c q l S) (f:Below w.heap.size w e) {k:Nat} (j:fM e d c q S k):fM w d c q S k:=
 fM.keep (fun i g=>f.block _ (by obtain ⟨_,_,_,b,_⟩:=h.mail i g;exact ah b)) j
def lq (w w':World) (q:Nat→Nat) (L:List Nat):Prop:=
 ∀i∈L,∀C,w.heap[q i]? =some (.cells C 158 (0,0))→∃C',w'.heap[q i]? =some (.cells C' 158 (0,0))∧C'[4]? =C[4]? ∧C'[5]? =C[5]?
structure eZ (pb mb:Nat) (q q':Nat→Nat) (S S':aa) (w w':World):Prop where
 chg:aH (fM w pb mb q S) w w'
 own:∀k,fM w' pb mb q' S' k→fM w pb mb q S k∨w.heap.size≤k
theorem eZ.trans {b a:Nat} {q g i:Nat→Nat} {S c d:aa} {w j l:World} (h:eZ b a q g S c w j) (f:eZ b a g i c d j l):eZ b a q i S d w l:=
 ⟨h.chg.trans f.chg (fun k m e=>(h.own k e).elim id (fun e=>by omega)),fun k e=>(f.own k e).elim (h.own k) (fun e=> .inr (Nat.le_trans h.chg.size e))⟩
theorem eZ.after {a d c:Nat} {q g:Nat→Nat} {l:Value} {S f:aa} {w i j:World} (h:bh a w d c q l S) (b:Below w.heap.size w i) (t:eZ d c q g S f i j):eZ d c q g S f w j:=
 ⟨(aH.below b).trans t.chg (fun _ _ e=>cR h b e),fun k e=>(t.own k e).imp (cR h b) (fun e=>Nat.le_trans b.size e)⟩
theorem eZ.refl {pb a:Nat} {q:Nat→Nat} {S:aa} {w:World}:eZ pb a q q S S w w:=⟨aH.refl _ _,fun _ e=> .inl e⟩
theorem lq.after {q:Nat→Nat} {L:List Nat} {w a b:World} (d:Below w.heap.size w a) (h:lq a b q L):lq w b q L:=fun i e C c=>h i e C (ae d c)
theorem lq.trans {q:Nat→Nat} {L a:List Nat} {w c d:World} (h:lq w c q L) (g:lq c d q a) (r:∀i∈a,i∈L):lq w d q a:=fun i b C p=>by
 obtain ⟨e,j,l,m⟩:=h i (r i b) C p;obtain ⟨f,k,n,o⟩:=g i b e j;exact ⟨f,k,n.trans l,o.trans m⟩
def jk (w:World) (q:Nat→Nat) (L:List Nat) (D:Nat→Int×Int):Prop:=
 ∀i∈L,∃C,w.heap[q i]? =some (.cells C 158 (0,0))∧C[4]? =some (.int .i64 (D i).1)∧C[5]? =some (.int .i64 (D i).2)
def sH (n T:Nat) (D:Nat→Int×Int) (i:Nat):Int×Int:=if i < n then D i else (T,0)
theorem lq.due {w c:World} {q:Nat→Nat} {L a:List Nat} {D:Nat→Int×Int} (h:lq w c q a) (n:∀i∈a,i∈L) (m:jk w q L D):jk c q a D:=fun i b=>by
 obtain ⟨C,e,g,j⟩:=m i (n i b);obtain ⟨d,f,k,l⟩:=h i b C e;exact ⟨d,f,k.trans g,l.trans j⟩
theorem jk.below {w a:World} {q:Nat→Nat} {L:List Nat} {D:Nat→Int×Int} (f:jk w q L D) (e:Below w.heap.size w a):jk a q L D:=fun i g=>by
 obtain ⟨C,b,c,d⟩:=f i g;exact ⟨C,ae e b,c,d⟩
theorem jk.new {w:World} {q:Nat→Nat} {L:List Nat} {D:Nat→Int×Int} {n T:Nat} (f:jk w q L D) (b:∀i∈L,i < n):jk w q L (sH n T D):=fun i a=>by
 obtain ⟨C,c,d,e⟩:=f i a;exact ⟨C,c,by unfold sH;rw [if_pos (b i a)];exact d,by unfold sH;rw [if_pos (b i a)];exact e⟩
theorem ym {c j m T:Nat} {q:Nat→Nat} {r:Value} {S:aa} {w d:World} (h:bh c w j m q r S) (l:aL j w d):eZ j m q q S ⟨S.items,T⟩ w d∧lq w d q S.live:=by
 have a:∀i∈S.live,d.heap[q i]? =w.heap[q i]? :=fun i b=>by
  obtain ⟨_,v,x,f,_⟩:=h.mail i b;exact l.2 _ (fun e=>by unfold dL at f;rw [e,h.bag] at f;simp at f)
 refine ⟨⟨(aH.same l).mono (fun _ _ e=> .inl e),fun k g=> .inl ?_⟩,fun i b C p=>⟨C,(a i b).trans p,rfl,rfl⟩⟩
 rcases g with e | e | ⟨i,b,g⟩
 ·exact .inl e
 ·exact .inr (.inl e)
 ·refine .inr (.inr ⟨i,b,g.imp id ?_⟩);rintro ⟨C,z,n,o⟩;exact ⟨C,z,by rw [←a i b];exact n,o⟩
theorem zU {c f b:Nat} {q g:Nat→Nat} {B:Value} {S:aa} {m:aX} {w j:World} (h:bh c w f b q B S) (A:1≤m.tos.length) (n:aH (fun k=>k=f∨k=b) w j) (y:∀k,fM j f b g (S.plus m) k→fM w f b q S k∨w.heap.size≤k) (z:∀i∈S.live,g i=q i) (u:∃p,dL j (g S.items.length) m.time m.frm p m.body (m.time,0)):
  eZ f b q g S (S.plus m) w j∧∀D,jk w q S.live D→jk j g (S.plus m).live (sH S.items.length m.time D):=by
 refine ⟨⟨n.mono (fun _ _ e=>e.imp id .inl),y⟩,fun D t i a=>?_⟩;rw [lz A,List.mem_append,List.mem_singleton] at a
 rcases a with a | rfl
 ·obtain ⟨C,d,r,s⟩:=t i a;obtain ⟨_,v,x,l,_⟩:=h.mail i a;have o:=bq a;refine ⟨C,?_,by unfold sH;rw [if_pos o];exact r,by unfold sH;rw [if_pos o];exact s⟩
  rw [z i a];refine n.some_ d (fun e=>?_)
  rcases e with e | e
  ·rw [e,h.bag] at d;simp at d
  ·rw [e,show w.heap[b]? =_ from h.map] at d;simp at d
 ·obtain ⟨p,l⟩:=u;exact ⟨_,l,by unfold sH;rw [if_neg (Nat.lt_irrefl _)];rfl,by unfold sH;rw [if_neg (Nat.lt_irrefl _)];rfl⟩
def fR (base pb mb:Nat) (q:Nat→Nat) (vr:Value) (S S':aa) (T:Nat) (w:World) (e:Ending) (w':World):Prop:=
 e= .returned (.bool true)∧∃q',bh base w' pb mb q' vr S'∧eZ pb mb q q' S S' w w'∧∀D,jk w q S.live D→jk w' q' S'.live (sH S.items.length T D)
theorem fR.after {a c b T:Nat} {q:Nat→Nat} {d:Value} {S f:aa} {w j i:World} {e:Ending} (h:bh a w c b q d S) (g:Below w.heap.size w j) (t:fR a c b q d S f T j e i):fR a c b q d S f T w e i:=by
 obtain ⟨k,p,l,m,n⟩:=t;exact ⟨k,p,l,eZ.after h g m,fun D o=>n D (o.below g)⟩
class Kn where
 D0:Nat→Int×Int
 n0:Nat
 tk:Value
def bV [Kn] (S:aa) (i:Nat):Int×Int:=if i < Kn.n0 then Kn.D0 i else ((S.mailOf i).time,0)
end Go.Proofs.YtofpegbpgkkgkaaGreatDoor
