import Derived.Test.YtofpegbpgkkgkaaGreatDoorS09
import Derived.Maps.RangeRun
import Derived.Lib.LaidTab
import Derived.WalkSmall
import Derived.Lib.SlBytesConst
import Derived.Lib.DecodeN
import Derived.Conc.SmallLaws
import Derived.Orders
import Derived.Sort.OwnSortedInts
import Derived.Lib.Join
namespace Go.Proofs.YtofpegbpgkkgkaaGreatDoor
set_option maxHeartbeats 8000000
set_option maxRecDepth 1000000
open Go.RowKit
def fH.now (x:fH):aX:=⟨x.m.id,x.m.time,x.m.frm,(iW x.out x.out.length).map fun i=>x.m.tos.getD i [],x.m.body⟩
def gA (l:List fH):List aX:=(l.map fH.now).filter fun m=> !m.tos.isEmpty
def fJ (l:List (aX×Value)):List Value:=l.flatMap fun x=>(aY x.1 x.2).toList
theorem qa (l:List (aX×Value)) (x:aX×Value):fJ (l++[x])=fJ l++(aY x.1 x.2).toList:=by
 simp [fJ]
def nL (w:World) (v:Value) (ms:List aX):Prop:=
 ∃l:List (aX×Value),l.map (·.1)=ms∧bg w v l.length 5 (fJ l)∧∀x∈l,bg w x.2 x.1.tos.length 1 (cm x.1.tos)
def lE (base:Nat) (w:World) (v:Value) (l:List (aX×Value)):Prop:=
 w.ownsRow base 45 5 v l.length (fJ l)∧∀x∈l,w.ownsRow base 9 1 x.2 x.1.tos.length (cm x.1.tos)
theorem xL:(Tryz.prog.info? 45).map (fun i=>(i.zero,i.size,i.bytes))=some (some (.agg #[.int .i64 0,.int .i64 0,.string ⟨#[]⟩,.slice none 0 0,.string ⟨#[]⟩]),5,72):=by kernel_rfl
theorem aF {w:World} {a n f:Nat} {e:TypeId} {v:Value} {i:List Value} (h:w.ownsRow a e f v n i):bg w v n f i:=by
 refine ⟨h.1,?_⟩
 rcases h.2 with ⟨b,m⟩ | ⟨g,k,l,b,_,o,c,_,_,d⟩
 ·exact .inl ⟨m,none,0,b⟩
 ·refine .inr ⟨g,0,k,b,c,fun j p=>?_⟩;rw [Nat.zero_add,Lib.cell_of_heap o,←Array.getElem?_toList,←List.getElem?_take_of_lt p,d]
theorem lE.at {a:Nat} {w:World} {v:Value} {l:List (aX×Value)} (h:lE a w v l):nL w v (l.map (·.1)):=
 ⟨l,rfl,aF h.1,fun x b=>aF (h.2 x b)⟩
theorem lE.touch {a:Nat} {w d:World} {v:Value} {l:List (aX×Value)} {b:List TypeId} (h:lE a w v l) (c:cJ b w d) (e:45 ∉ b) (f:9 ∉ b):lE a d v l:=
 ⟨dG c e h.1,fun x g=>dG c f (h.2 x g)⟩
theorem FG {z:Nat} {y c b:World} {v w vt:Value} {rows:List (aX×Value)} {m:aX} {o:Obj} (E:∀x∈rows,c.ownsRow z 9 1 x.2 x.1.tos.length (cm x.1.tos)) (r:c.ownsRow z 45 5 v rows.length (fJ rows)) (B:c.ownsRow z 9 1 vt m.tos.length (cm m.tos)) (A:Below z y c) (H:z≤c.heap.size)
  (k:b.ownsRow z 45 5 w (rows.length+1) (fJ rows++(aY m vt).toList)) (a:(c.alloc o).grownBy b v.ownBlock):lE z b w (rows++[(m,vt)])∧Below z y b:=by
 have i:∀(u:Value) (n:Nat) (q:List Value),c.ownsRow z 9 1 u n q→b.ownsRow z 9 1 u n q:=fun u n q h=>by
  refine (h.alloc o).kept a ?_
  rcases h.2 with ⟨e,_⟩ | ⟨g,C,D,e,_,F,_⟩
  ·subst e;exact .inl rfl
  ·refine .inr fun d=>?_
   rcases r.2 with ⟨l,_⟩ | ⟨I,s,t,l,_,p,_⟩
   ·rw [l,e] at d;cases d
   ·rw [l,e] at d;injection d with d;exact DQ F p (by decide) d
 refine ⟨⟨?_,fun x f=>?_⟩,?_⟩
 ·rw [List.length_append,qa];exact k
 ·rcases List.mem_append.1 f with f | f
  ·exact i _ _ _ (E x f)
  ·simp only [List.mem_singleton] at f;subst f;exact i _ _ _ B
 ·exact (A.alloc H o).grown a (by simp;omega) (fun j G=>(r.lt j G).1)
structure bh (base:Nat) (w:World) (pb mb:Nat) (q:Nat→Nat) (vr:Value) (S:bp):Prop where
 bag:w.heap[pb]? =some (.cells #[vr,.int .i64 S.time,.int .i64 S.items.length,.map (some mb)] 117 (0,0))
 map:gh w mb q S.live S.items.length
 pbb:base≤pb
 mbb:base≤mb
 one:∀i∈S.live,∀j∈S.live,q i=q j→i=j
 mail:∀i∈S.live,base≤q i∧∃v x,dL w (q i) (S.mailOf i).time (S.mailOf i).frm v (S.mailOf i).body x∧w.ownsRow base 162 2 v (S.stayOf i).length (aR (S.stayOf i))
theorem gN {p:Nat} {w w':World} (b:sc p w w') {k:Nat} {o:Obj} (h:w.heap[k]? =some o) (a:k≠p):w'.heap[k]? =some o:=(b.block k (ah h) a).trans h
theorem gd {w:World} {b:Nat} {a:Array MapEntry} {c:Nat} (h:w.heap[b]? =some (.map a c)) (o:Obj):aL b w (ChangeMaps.setBlock w b o):=
 ⟨by simp [ChangeMaps.setBlock],fun k d=>ChangeMaps.heap_setBlock_other h o d,⟨rfl,rfl,rfl⟩⟩
section
variable {base pb mb:Nat} {q:Nat→Nat} {vr:Value} {S:bp} {w w':World}
theorem bh.pblt (h:bh base w pb mb q vr S):pb < w.heap.size:=ah h.bag
theorem bh.mblt (h:bh base w pb mb q vr S):mb < w.heap.size:=ah h.map
theorem bh.le (h:bh base w pb mb q vr S):base≤w.heap.size:=by have:=h.pblt;have:=h.pbb;omega
theorem bh.keep (h:bh base w pb mb q vr S) (d:Below w.heap.size w w'):bh base w' pb mb q vr S:=
 ⟨ae d h.bag,ae d h.map,h.pbb,h.mbb,h.one,fun i j=>by
  obtain ⟨a,v,x,b,c⟩:=h.mail i j
  exact ⟨a,v,x,ae d b,ep c fun g f e _=>ae d e⟩⟩
theorem bh.timed (h:bh base w pb mb q vr S) {T:Nat} {vr':Value} (d:aL pb w w') (l:w'.heap[pb]? =some (.cells #[vr',.int .i64 T,.int .i64 S.items.length,.map (some mb)] 117 (0,0))):bh base w' pb mb q vr' ⟨S.items,T⟩:=
 ⟨l,aP d h.map (fun e=>by have:=h.map;unfold gh at this;rw [e,h.bag] at this;simp at this),h.pbb,h.mbb,h.one,fun i k=>by
  obtain ⟨a,v,x,b,c⟩:=h.mail i k;refine ⟨a,v,x,aP d b (fun e=>?_),ep c fun g f e _=>aP d e fun j=>?_⟩
  ·unfold dL at b;rw [e,h.bag] at b;simp at b
  ·rw [j,h.bag] at e;simp at e⟩
theorem bh.added (h:bh base w pb mb q vr S) {p s:World} {m:aX} {Q:Nat} {v:Value} {x:Int×Int} (y:aL pb w p) (u:p.heap[pb]? =some (.cells #[vr,.int .i64 m.time,.int .i64 ((S.items.length:Int)+1),.map (some mb)] 117 (0,0)))
  (C:Below p.heap.size p s) (P:p.heap.size≤Q) (E:dL s Q m.time m.frm v m.body x) (I:s.ownsRow p.heap.size 162 2 v m.tos.length (aR (stay m.tos (List.replicate m.tos.length false)))) (J:1≤m.tos.length):
  bh base (ChangeMaps.setBlock s mb (.map (cO (fun i=>if i=S.items.length then Q else q i) (S.live++[S.items.length])) (S.items.length+1))) pb mb (fun i=>if i=S.items.length then Q else q i) vr (S.plus m):=by
 have r:p.heap[mb]? =some (.map (cO q S.live) S.items.length):=aP y h.map (fun e=>by have:=h.map;unfold gh at this;rw [e,h.bag] at this;simp at this);have f:s.heap[mb]? =some (.map (cO q S.live) S.items.length):=ae C r;have D:=gd f (.map (cO (fun i=>if i=S.items.length then Q else q i) (S.live++[S.items.length])) (S.items.length+1));have t:base≤p.heap.size:=by rw [y.1];exact h.le
 have H:pb≠mb:=fun e=>by rw [e,r] at u;simp at u
 have l:∀i∈S.live,i≠S.items.length:=fun i d e=>by have:=bq d;omega
 refine ⟨?_,?_,h.pbb,h.mbb,?_,?_⟩
 ·rw [dv];have:=aP D (ae C u) H;simpa [bp.plus] using this
 ·unfold gh;rw [dv,lz J];exact ChangeMaps.heap_setBlock_same f _
 ·rw [lz J]
  have K:∀i∈S.live,q i < Q:=fun i d=>by
   obtain ⟨_,v,_,b,_⟩:=h.mail i d;have:=ah b;rw [y.1] at P;omega
  intro i d j o e;simp only [List.mem_append,List.mem_singleton] at d o
  rcases d with d | rfl
  ·rcases o with o | rfl
   ·rw [if_neg (l i d),if_neg (l j o)] at e;exact h.one i d j o e
   ·rw [if_neg (l i d),if_pos rfl] at e;have:=K i d;omega
  ·rcases o with o | rfl
   ·rw [if_pos rfl,if_neg (l j o)] at e;have:=K j o;omega
   ·rfl
 ·rw [lz J];intro i d;simp only [List.mem_append,List.mem_singleton] at d
  have k:∀{n:Nat} {v:Value} {L:List Value} {B:Nat},base≤B→s.ownsRow B 162 2 v n L→(ChangeMaps.setBlock s mb (.map (cO (fun i=>if i=S.items.length then Q else q i) (S.live++[S.items.length])) (S.items.length+1))).ownsRow base 162 2 v n L:=fun O I=>by
   refine (ep I fun g F e _=>aP D e fun G=>?_).mono O;rw [G,f] at e;simp at e
  rcases d with d | rfl
  ·have z:=bq d;obtain ⟨a,v,x,b,c⟩:=h.mail i d;simp only [if_neg (l i d)];rw [je z,jU z];have M:dL p (q i) (S.mailOf i).time (S.mailOf i).frm v (S.mailOf i).body x:=aP y b (fun e=>by unfold dL at b;rw [e,h.bag] at b;simp at b);have A:dL s (q i) (S.mailOf i).time (S.mailOf i).frm v (S.mailOf i).body x:=ae C M;refine ⟨a,v,x,aP D A (fun e=>by unfold dL at A;rw [e,f] at A;simp at A),k (Nat.le_refl _) ?_⟩;refine ep c fun g F e _=>ae C (aP y e fun G=>?_);rw [G,h.bag] at e;simp at e
  ·simp only [if_true];rw [dN,mB];have N:(stay m.tos (List.replicate m.tos.length false)).length=m.tos.length:=by rw [nH];simp
   rw [N];exact ⟨by omega,v,x,aP D E (fun e=>by unfold dL at E;rw [e,f] at E;simp at E),k t I⟩
theorem bh.left (h:bh base w pb mb q vr S) {l:World} {K:Nat} {k:List Nat} {v:Value} {x:Int×Int} (f:K∈S.live) (j:sc (q K) w l) (t:dL l (q K) (S.mailOf K).time (S.mailOf K).frm v (S.mailOf K).body x)
  (u:l.ownsRow w.heap.size 162 2 v (bM (S.stayOf K) k).length (aR (bM (S.stayOf K) k))) (o:bM (S.stayOf K) k≠[]):bh base l pb mb q vr (S.outs K k):=by
 obtain ⟨r,A,B,d,z⟩:=h.mail K f;refine ⟨?_,?_,h.pbb,h.mbb,?_,?_⟩
 ·rw [bL];exact gN j h.bag (fun e=>by unfold dL at d;rw [←e,h.bag] at d;simp at d)
 ·unfold gh;rw [bL,jz f o];refine gN j h.map (fun e=>?_);have:=h.map;unfold gh at this;unfold dL at d;rw [e,d] at this;simp at this
 ·rw [jz f o];exact h.one
 ·rw [jz f o];intro i p;rw [mo]
  by_cases e:i=K
  ·subst e;rw [jc (bq f)];exact ⟨r,v,x,t,u.mono h.le⟩
  ·obtain ⟨a,y,x,b,c⟩:=h.mail i p;rw [il e];refine ⟨a,y,x,gN j b (fun m=>e (h.one i p K f m)),ep c fun g s n _=>gN j n fun m=>?_⟩;unfold dL at d;rw [m,d] at n;simp at n
theorem bh.emptied (h:bh base w pb mb q vr S) {o:World} {K:Nat} {z:List Nat} (n:K∈S.live) (r:sc (q K) w o) (y:bM (S.stayOf K) z=[]):o.heap[mb]? =some (.map (cO q S.live) S.items.length)∧
  bh base (ChangeMaps.setBlock o mb (.map (cO q (S.live.filter fun i=>decide (i≠K))) S.items.length)) pb mb q vr (S.outs K z):=by
 obtain ⟨D,F,G,f,E⟩:=h.mail K n
 have d:o.heap[mb]? =some (.map (cO q S.live) S.items.length):=gN r h.map (fun e=>by
  have:=h.map;unfold gh at this;unfold dL at f;rw [e,f] at this
  simp at this)
 have u:=gd d (.map (cO q (S.live.filter fun i=>decide (i≠K))) S.items.length);have l:=gN r h.bag (fun e=>by unfold dL at f;rw [←e,h.bag] at f;simp at f);refine ⟨d,?_,?_,h.pbb,h.mbb,?_,?_⟩
 ·rw [bL];exact aP u l (fun e=>by rw [e,d] at l;simp at l)
 ·unfold gh;rw [bL,jy n y];exact ChangeMaps.heap_setBlock_same d _
 ·rw [jy n y];exact fun i m j C e=>h.one i (List.mem_filter.1 m).1 j (List.mem_filter.1 C).1 e
 ·rw [jy n y];intro i m;obtain ⟨m,v⟩:=List.mem_filter.1 m;have e:i≠K:=by simpa using v
  rw [mo,il e];obtain ⟨a,A,x,b,c⟩:=h.mail i m;have p:dL o (q i) (S.mailOf i).time (S.mailOf i).frm A (S.mailOf i).body x:=gN r b (fun k=>e (h.one i m K n k));refine ⟨a,A,x,aP u p (fun k=>by unfold dL at p;rw [k,d] at p;simp at p),ep c fun g B s _=>?_⟩;have t:=gN r s (fun k=>by unfold dL at f;rw [k,f] at s;simp at s);exact aP u t (fun k=>by rw [k,d] at t;simp at t)
end
theorem fU:Tryz.prog.underlying 3=some (.int .i64):=Tryz.underlying3
theorem pk (w:World):(zeroValue 122).run Tryz.prog w= .ok (.pointer none) w:=by kernel_rfl
theorem D7 {c l a Q:Nat} {q:Nat→Nat} {o:Value} {S:bp} {m:aX} {n b g:World} (h:bh c n l a q o S) (p:aL l n b) (_:b.heap[l]? =some (.cells #[o,.int .i64 m.time,.int .i64 ((S.items.length:Int)+1),.map (some a)] 117 (0,0))) (r:Below b.heap.size b g) (k:m.id=S.items.length+1) (s:S.items.length < 4294967295):
  (Instr.mapUpdate 115 (.map (some a)) (.int .i64 m.id) (.pointer (some ⟨Q,0,none⟩))).run Tryz.prog g= .ok () (ChangeMaps.setBlock g a (.map (cO (fun i=>if i=S.items.length then Q else q i) (S.live++[S.items.length])) (S.items.length+1))):=by
 have d:b.heap[a]? =some (.map (cO q S.live) S.items.length):=aP p h.map (fun e=>by have:=h.map;unfold gh at this;rw [e,h.bag] at this;simp at this);have f:gh g a q S.live S.items.length:=ae r d;have:=Jl (t:=115) (e:=122) fU Tryz.underlying115 f (fun i j=>bq j) s Q (fun i=>if i=S.items.length then Q else q i) (fun i j=>if_neg (by have:=bq j;omega)) (if_pos rfl);rw [k];exact this
theorem zV {a k i:Nat} {q:Nat→Nat} {m:Value} {S:bp} {d b l:World} (h:bh a d k i q m S) (f:aL k d b) (j:Below b.heap.size b l) (o:Obj):Below a d (ChangeMaps.setBlock l i o):=by
 have c:b.heap[i]? =some (.map (cO q S.live) S.items.length):=aP f h.map (fun e=>by have:=h.map;unfold gh at this;rw [e,h.bag] at this;simp at this);have g:a≤b.heap.size:=by rw [f.1];exact h.le
 exact ((f.below h.pbb).trans (j.mono g)).trans ((gd (ae j c) o).below h.mbb)
theorem tG (d b k:Nat) (q:Nat→Nat) (z:Value) (S:bp) (m:aX) (v:Value) (w:World) (h:bh d w b k q z S) (B:Nat) (R:w.ownsRow B 9 1 v m.tos.length (cm m.tos)) (T:dQ m) (x:m.id=S.items.length+1) (ht:1≤m.tos.length) (hn:S.items.length < 4294967295):
  Calls Tryz.prog 166 #[.pointer (some ⟨b,0,none⟩),.agg (aY m v)] w fun e U=>e= .returned (.tuple #[])∧∃q',bh d U b k q' z (S.plus m)∧Below d w U:=by
 have E:=Lib.hid h;have Z:=Lib.hid R;have HZ:=Lib.hid T;have c:∀o:Obj,(w.alloc o).heap[b]? =some (.cells #[z,.int .i64 S.time,.int .i64 S.items.length,.map (some k)] 117 (0,0)):=fun o=>ae ((Below.refl _ w).alloc (Nat.le_refl _) o) h.bag;have c1:∀o:Obj,(w.alloc o).cell? ⟨b,1,none⟩=some (.int .i64 S.time):=fun o=>by rw [Lib.cell_of_heap (c o)];rfl
 have c2:∀o:Obj,(w.alloc o).cell? ⟨b,2,none⟩=some (.int .i64 S.items.length):=fun o=>by rw [Lib.cell_of_heap (c o)];rfl
 have c3:∀o:Obj,(w.alloc o).cell? ⟨b,3,none⟩=some (.map (some k)):=fun o=>by rw [Lib.cell_of_heap (c o)];rfl
 have f1:∀o:Obj,(w.alloc o).frozen? ⟨b,1,none⟩=false:=fun o=>Lib.frozen_of_heap (c o) 1;have f2:∀o:Obj,(w.alloc o).frozen? ⟨b,2,none⟩=false:=fun o=>Lib.frozen_of_heap (c o) 2;have X:=Lib.hid c;obtain ⟨s,P⟩:∃s,w.heap.size=s:=⟨_,rfl⟩;have K:b≠s:=by have:=h.pblt;omega
 have H:=Lib.hid P;unfold aY;have u:=Lib.hid x;clear h R T c P x;go_enter Tryz.func166,Tryz.ntmps166;go_wp2_with fail
 obtain ⟨a,i⟩:∃a:World,(((w.alloc (.cells #[.int .i64 m.id,.int .i64 m.time,.string (bs m.frm),v,.string (bs m.body)] 45)).setCell ⟨b,2,none⟩ (.int .i64 m.id)).setCell ⟨b,1,none⟩ (.int .i64 m.time))=a:=⟨_,rfl⟩;rw [i];obtain ⟨j,f⟩:∃j:World,w.alloc (.cells #[.int .i64 m.id,.int .i64 m.time,.string (bs m.frm),v,.string (bs m.body)] 45)=j:=⟨_,rfl⟩;have A:Below w.heap.size w j:=by rw [←f];exact (Below.refl _ _).alloc (Nat.le_refl _) _
 have D:bh d j b k q z S:=E.out.keep A;have L:j.heap[w.heap.size]? =some (.cells #[.int .i64 m.id,.int .i64 m.time,.string (bs m.frm),v,.string (bs m.body)] 45 (0,0)):=by rw [←f];exact heap_alloc_new w _
 have C:aL b j a:=by rw [←i,f];exact ((aL.refl b j).setCell _).setCell _
 have J:a.heap[b]? =some (.cells #[z,.int .i64 m.time,.int .i64 ((S.items.length:Int)+1),.map (some k)] 117 (0,0)):=by
  rw [←i,f];have:=heap_setCell_same _ b 1 _ _ (.int .i64 m.time) (heap_setCell_same j b 2 _ _ (.int .i64 m.id) D.bag);refine Eq.trans this ?_;rw [u.out];rfl
 have r:a.heap[w.heap.size]? =some (.cells #[.int .i64 m.id,.int .i64 m.time,.string (bs m.frm),v,.string (bs m.body)] 45 (0,0)):=aP C L (by rw [H.out];exact fun e=>K e.symm);have d3:a.drew.cell? ⟨b,3,none⟩=some (.map (some k)):=by show a.cell? _=_;rw [Lib.cell_of_heap J];rfl
 have e0:a.drew.cell? ⟨w.heap.size,0,none⟩=some (.int .i64 m.id):=by show a.cell? _=_;rw [Lib.cell_of_heap r];rfl
 have e1:a.drew.cell? ⟨w.heap.size,1,none⟩=some (.int .i64 m.time):=by show a.cell? _=_;rw [Lib.cell_of_heap r];rfl
 have e2:a.drew.cell? ⟨w.heap.size,2,none⟩=some (.string (bs m.frm)):=by show a.cell? _=_;rw [Lib.cell_of_heap r];rfl
 have e3:a.drew.cell? ⟨w.heap.size,3,none⟩=some v:=by show a.cell? _=_;rw [Lib.cell_of_heap r];rfl
 have e4:a.drew.cell? ⟨w.heap.size,4,none⟩=some (.string (bs m.body)):=by show a.cell? _=_;rw [Lib.cell_of_heap r];rfl
 have y:bg a.drew v m.tos.length 1 (cm m.tos):=aF (ep Z.out fun g a0 e _=>aP (C.drew) (ae A e) (fun e'=>by rw [e',E.out.bag] at e;simp at e));have G:=Lib.hid (rN m v a.drew y HZ.out);have p:=Lib.hid (show a.drew.heap[b]? =_ from J);have n:=Lib.hid C.drew;have l:=Lib.hid D;have I:=Lib.hid (show a.drew.heap[w.heap.size]? =_ from r);have F:=Lib.hid (A.mono E.out.le);clear c1 c2 c3 f1 f2 i f J C D r L A y
 go_region_law (first
  | (go_simp;go_at_call 220;refine G.out.mono ?_;rintro e V ⟨Q,g,rfl,M,N,O,t⟩;have a1:V.cell? ⟨b,3,none⟩=some (.map (some k)):=(by rw [Lib.cell_of_heap (ae t p.out)];rfl);have a2:V.cell? ⟨w.heap.size,0,none⟩=some (.int .i64 m.id):=(by rw [Lib.cell_of_heap (ae t I.out)];rfl);have a3:=D7 (Q:=Q) l.out n.out p.out t u.out hn;have Y:=Lib.hid (l.out.added n.out p.out t N M O ht);have W:=Lib.hid (zV l.out n.out t);clear M N O t))
 all_goals
  refine bodyPost_end (results_none rfl _ _ _) rfl ?_;exact ⟨rfl,_,Y.out,(F.out).trans (W.out _)⟩
def fM (w:World) (pb mb:Nat) (q:Nat→Nat) (S:bp) (k:Nat):Prop:=
 k=pb∨k=mb∨∃i∈S.live,k=q i∨∃C z,w.heap[q i]? =some (.cells C 158 z)∧(C.getD 2 undef).ownBlock=some k
theorem fM.keep {w d:World} {c b:Nat} {q:Nat→Nat} {S:bp} (h:∀i∈S.live,d.heap[q i]? =w.heap[q i]?) {k:Nat} (j:fM d c b q S k):fM w c b q S k:=by
 rcases j with e | e | ⟨i,a,e | ⟨C,z,f,g⟩⟩
 ·exact .inl e
 ·exact .inr (.inl e)
 ·exact .inr (.inr ⟨i,a,.inl e⟩)
 ·exact .inr (.inr ⟨i,a,.inr ⟨C,z,by rw [←h i a];exact f,g⟩⟩)
theorem yA {l g d:Nat} {q:Nat→Nat} {F:Value} {S:bp} {w s j p:World} (B:bh l w g d q F S) (G:Below w.heap.size w s) (h:bh l s g d q F S) {m:aX} {Q:Nat} {v:Value} {x:Int×Int} (A:aL g s j) (_:j.heap[g]? =some (.cells #[F,.int .i64 m.time,.int .i64 ((S.items.length:Int)+1),.map (some d)] 117 (0,0)))
  (H:Below j.heap.size j p) (P:j.heap.size≤Q) (y:dL p Q m.time m.frm v m.body x) (N:p.ownsRow j.heap.size 162 2 v m.tos.length (aR (stay m.tos (List.replicate m.tos.length false)))) (O:1≤m.tos.length):
  aH (fun k=>k=g∨k=d) w (ChangeMaps.setBlock p d (.map (cO (fun i=>if i=S.items.length then Q else q i) (S.live++[S.items.length])) (S.items.length+1)))∧∀k,fM (ChangeMaps.setBlock p d (.map (cO (fun i=>if i=S.items.length then Q else q i) (S.live++[S.items.length])) (S.items.length+1))) g d (fun i=>if i=S.items.length then Q else q i) (S.plus m) k→fM w g d q S k∨w.heap.size≤k:=by
 have t:j.heap[d]? =some (.map (cO q S.live) S.items.length):=aP A h.map (fun e=>by have:=h.map;unfold gh at this;rw [e,h.bag] at this;simp at this);have o:p.heap[d]? =some (.map (cO q S.live) S.items.length):=ae H t;have I:=gd o (.map (cO (fun i=>if i=S.items.length then Q else q i) (S.live++[S.items.length])) (S.items.length+1));have L:j.heap.size=s.heap.size:=A.1;have J:=G.size
 have K:aH (fun k=>k=g∨k=d) w (ChangeMaps.setBlock p d (.map (cO (fun i=>if i=S.items.length then Q else q i) (S.live++[S.items.length])) (S.items.length+1))):=
  (((aH.below G:aH (fun k=>k=g∨k=d) w s).trans (aH.same A) (fun _ _ e=> .inl e)).trans (aH.below H:aH (fun _=>False) _ _) (fun k _ e=>e.elim)).trans (aH.same I) (fun _ _ e=> .inr e)
 refine ⟨K,fun k r=>?_⟩
 rcases r with e | e | ⟨i,n,r⟩
 ·exact .inl (.inl e)
 ·exact .inl (.inr (.inl e))
 ·rw [lz O] at n;simp only [List.mem_append,List.mem_singleton] at n
  rcases n with n | rfl
  ·have E:i≠S.items.length:=by have:=bq n;omega
   obtain ⟨a,R,T,b,c⟩:=B.mail i n
   have M:=K.some_ b (fun e=>by
    unfold dL at b
    rcases e with e | e
    ·rw [e,B.bag] at b;simp at b
    ·have:=B.map;unfold gh at this;rw [e,this] at b;simp at b)
   simp only [if_neg E] at r
   rcases r with e | ⟨C,z,f,u⟩
   ·exact .inl (.inr (.inr ⟨i,n,.inl e⟩))
   ·refine .inl (.inr (.inr ⟨i,n,.inr ⟨C,z,?_,u⟩⟩));rw [M] at f;rw [←f];exact b
  ·simp only [if_true] at r
   right
   rcases r with e | ⟨C,z,f,u⟩
   ·omega
   ·have D:=aP I y (fun e=>by unfold dL at y;rw [e,o] at y;simp at y);rw [D] at f;injection f with f;injection f with f _ _;rw [←f] at u;have:=N.lt k u;omega
theorem wy {c k f:Nat} {q:Nat→Nat} {n:Value} {S:bp} {l b j:World} (h:bh c l k f q n S) {m:aX} {Q:Nat} {v:Value} {x:Int×Int} (o:aL k l b) (_:b.heap[k]? =some (.cells #[n,.int .i64 m.time,.int .i64 ((S.items.length:Int)+1),.map (some f)] 117 (0,0)))
  (p:Below b.heap.size b j) (_:b.heap.size≤Q) (g:dL j Q m.time m.frm v m.body x):
  dL (ChangeMaps.setBlock j f (.map (cO (fun i=>if i=S.items.length then Q else q i) (S.live++[S.items.length])) (S.items.length+1))) Q m.time m.frm v m.body x:=by
 have d:b.heap[f]? =some (.map (cO q S.live) S.items.length):=aP o h.map (fun e=>by have:=h.map;unfold gh at this;rw [e,h.bag] at this;simp at this);have a:j.heap[f]? =some (.map (cO q S.live) S.items.length):=ae p d;exact aP (gd a _) g (fun e=>by unfold dL at g;rw [e,a] at g;simp at g)
theorem rA (f a l:Nat) (q:Nat→Nat) (C:Value) (S:bp) (m:aX) (v:Value) (w:World) (h:bh f w a l q C S) (B:Nat) (Y:w.ownsRow B 9 1 v m.tos.length (cm m.tos)) (Z:dQ m) (z:m.id=S.items.length+1) (X:1≤m.tos.length) (hn:S.items.length < 4294967295):
  Calls Tryz.prog 166 #[.pointer (some ⟨a,0,none⟩),.agg (aY m v)] w fun e I=>e= .returned (.tuple #[])∧∃H,bh f I a l H C (S.plus m)∧aH (fun k=>k=a∨k=l) w I∧(∀k,fM I a l H (S.plus m) k→fM w a l q S k∨w.heap.size≤k)∧(∀i∈S.live,H i=q i)∧∃v',dL I (H S.items.length) m.time m.frm v' m.body (m.time,0):=by
 have K:=Lib.hid h;have HV:=Lib.hid Y;have HZ:=Lib.hid Z;have c:∀o:Obj,(w.alloc o).heap[a]? =some (.cells #[C,.int .i64 S.time,.int .i64 S.items.length,.map (some l)] 117 (0,0)):=fun o=>ae ((Below.refl _ w).alloc (Nat.le_refl _) o) h.bag;have c1:∀o:Obj,(w.alloc o).cell? ⟨a,1,none⟩=some (.int .i64 S.time):=fun o=>by rw [Lib.cell_of_heap (c o)];rfl
 have c2:∀o:Obj,(w.alloc o).cell? ⟨a,2,none⟩=some (.int .i64 S.items.length):=fun o=>by rw [Lib.cell_of_heap (c o)];rfl
 have c3:∀o:Obj,(w.alloc o).cell? ⟨a,3,none⟩=some (.map (some l)):=fun o=>by rw [Lib.cell_of_heap (c o)];rfl
 have f1:∀o:Obj,(w.alloc o).frozen? ⟨a,1,none⟩=false:=fun o=>Lib.frozen_of_heap (c o) 1;have f2:∀o:Obj,(w.alloc o).frozen? ⟨a,2,none⟩=false:=fun o=>Lib.frozen_of_heap (c o) 2;have a0:=Lib.hid c;obtain ⟨s,W⟩:∃s,w.heap.size=s:=⟨_,rfl⟩;have R:a≠s:=by have:=h.pblt;omega
 have N:=Lib.hid W;unfold aY;have y:=Lib.hid z;clear h Y Z c W z;go_enter Tryz.func166,Tryz.ntmps166;go_wp2_with fail
 obtain ⟨b,r⟩:∃b:World,(((w.alloc (.cells #[.int .i64 m.id,.int .i64 m.time,.string (bs m.frm),v,.string (bs m.body)] 45)).setCell ⟨a,2,none⟩ (.int .i64 m.id)).setCell ⟨a,1,none⟩ (.int .i64 m.time))=b:=⟨_,rfl⟩;rw [r];obtain ⟨t,j⟩:∃t:World,w.alloc (.cells #[.int .i64 m.id,.int .i64 m.time,.string (bs m.frm),v,.string (bs m.body)] 45)=t:=⟨_,rfl⟩;have D:Below w.heap.size w t:=by rw [←j];exact (Below.refl _ _).alloc (Nat.le_refl _) _
 have J:bh f t a l q C S:=K.out.keep D;have V:t.heap[w.heap.size]? =some (.cells #[.int .i64 m.id,.int .i64 m.time,.string (bs m.frm),v,.string (bs m.body)] 45 (0,0)):=by rw [←j];exact heap_alloc_new w _
 have E:aL a t b:=by rw [←r,j];exact ((aL.refl a t).setCell _).setCell _
 have P:b.heap[a]? =some (.cells #[C,.int .i64 m.time,.int .i64 ((S.items.length:Int)+1),.map (some l)] 117 (0,0)):=by
  rw [←r,j];have:=heap_setCell_same _ a 1 _ _ (.int .i64 m.time) (heap_setCell_same t a 2 _ _ (.int .i64 m.id) J.bag);refine Eq.trans this ?_;rw [y.out];rfl
 have u:b.heap[w.heap.size]? =some (.cells #[.int .i64 m.id,.int .i64 m.time,.string (bs m.frm),v,.string (bs m.body)] 45 (0,0)):=aP E V (by rw [N.out];exact fun e=>R e.symm);have d3:b.drew.cell? ⟨a,3,none⟩=some (.map (some l)):=by show b.cell? _=_;rw [Lib.cell_of_heap P];rfl
 have e0:b.drew.cell? ⟨w.heap.size,0,none⟩=some (.int .i64 m.id):=by show b.cell? _=_;rw [Lib.cell_of_heap u];rfl
 have e1:b.drew.cell? ⟨w.heap.size,1,none⟩=some (.int .i64 m.time):=by show b.cell? _=_;rw [Lib.cell_of_heap u];rfl
 have e2:b.drew.cell? ⟨w.heap.size,2,none⟩=some (.string (bs m.frm)):=by show b.cell? _=_;rw [Lib.cell_of_heap u];rfl
 have e3:b.drew.cell? ⟨w.heap.size,3,none⟩=some v:=by show b.cell? _=_;rw [Lib.cell_of_heap u];rfl
 have e4:b.drew.cell? ⟨w.heap.size,4,none⟩=some (.string (bs m.body)):=by show b.cell? _=_;rw [Lib.cell_of_heap u];rfl
 have A:bg b.drew v m.tos.length 1 (cm m.tos):=aF (ep HV.out fun g a1 e _=>aP (E.drew) (ae D e) (fun e'=>by rw [e',K.out.bag] at e;simp at e));have M:=Lib.hid (rN m v b.drew A HZ.out);have d:=Lib.hid (show b.drew.heap[a]? =_ from P);have p:=Lib.hid E.drew;have n:=Lib.hid J;have O:=Lib.hid (show b.drew.heap[w.heap.size]? =_ from u);have L:=Lib.hid D;clear c1 c2 c3 f1 f2 r j P E J u V D A
 go_region_law (first
  | (go_simp;go_at_call 220;refine M.out.mono ?_;rintro e w2 ⟨Q,g,rfl,F,G,T,x⟩;have a2:w2.cell? ⟨a,3,none⟩=some (.map (some l)):=(by rw [Lib.cell_of_heap (ae x d.out)];rfl);have a3:w2.cell? ⟨w.heap.size,0,none⟩=some (.int .i64 m.id):=(by rw [Lib.cell_of_heap (ae x O.out)];rfl);have a4:=D7 (Q:=Q) n.out p.out d.out x y.out hn;have HR:=Lib.hid (n.out.added p.out d.out x G F T X);have U:=Lib.hid (yA K.out L.out n.out p.out d.out x G F T X);have HN:=Lib.hid (wy n.out p.out d.out x G F);clear F G T x))
 all_goals
  refine bodyPost_end (results_none rfl _ _ _) rfl ?_;exact ⟨rfl,_,HR.out,U.out.1,U.out.2,fun i hi=>if_neg (by have:=bq hi;omega),_,by rw [if_pos rfl];exact HN.out⟩
theorem cR {a d c:Nat} {q:Nat→Nat} {l:Value} {S:bp} {w e:World} (h:bh a w d c q l S) (f:Below w.heap.size w e) {k:Nat} (j:fM e d c q S k):fM w d c q S k:=
 fM.keep (fun i g=>f.block _ (by obtain ⟨_,_,_,b,_⟩:=h.mail i g;exact ah b)) j
def lq (w w':World) (q:Nat→Nat) (L:List Nat):Prop:=
 ∀i∈L,∀C,w.heap[q i]? =some (.cells C 158 (0,0))→∃C',w'.heap[q i]? =some (.cells C' 158 (0,0))∧C'[4]? =C[4]? ∧C'[5]? =C[5]?
structure eZ (pb mb:Nat) (q q':Nat→Nat) (S S':bp) (w w':World):Prop where
 chg:aH (fM w pb mb q S) w w'
 own:∀k,fM w' pb mb q' S' k→fM w pb mb q S k∨w.heap.size≤k
theorem eZ.trans {b a:Nat} {q g i:Nat→Nat} {S c d:bp} {w j l:World} (h:eZ b a q g S c w j) (f:eZ b a g i c d j l):eZ b a q i S d w l:=
 ⟨h.chg.trans f.chg (fun k m e=>(h.own k e).elim id (fun e=>by omega)),fun k e=>(f.own k e).elim (h.own k) (fun e=> .inr (Nat.le_trans h.chg.size e))⟩
theorem eZ.after {a d c:Nat} {q g:Nat→Nat} {l:Value} {S f:bp} {w i j:World} (h:bh a w d c q l S) (b:Below w.heap.size w i) (t:eZ d c q g S f i j):eZ d c q g S f w j:=
 ⟨(aH.below b).trans t.chg (fun _ _ e=>cR h b e),fun k e=>(t.own k e).imp (cR h b) (fun e=>Nat.le_trans b.size e)⟩
theorem eZ.refl {pb a:Nat} {q:Nat→Nat} {S:bp} {w:World}:eZ pb a q q S S w w:=⟨aH.refl _ _,fun _ e=> .inl e⟩
theorem lq.after {q:Nat→Nat} {L:List Nat} {w a b:World} (d:Below w.heap.size w a) (h:lq a b q L):lq w b q L:=fun i e C c=>h i e C (ae d c)
theorem lq.trans {q:Nat→Nat} {L a:List Nat} {w c d:World} (h:lq w c q L) (g:lq c d q a) (r:∀i∈a,i∈L):lq w d q a:=fun i b C p=>by
 obtain ⟨e,j,l,m⟩:=h i (r i b) C p;obtain ⟨f,k,n,o⟩:=g i b e j;exact ⟨f,k,n.trans l,o.trans m⟩
def jk (w:World) (q:Nat→Nat) (L:List Nat) (D:Nat→Int×Int):Prop:=
 ∀i∈L,∃C,w.heap[q i]? =some (.cells C 158 (0,0))∧C[4]? =some (.int .i64 (D i).1)∧C[5]? =some (.int .i64 (D i).2)
def sH (n T:Nat) (D:Nat→Int×Int) (i:Nat):Int×Int:=if i < n then D i else (T,0)
theorem lq.due {w c:World} {q:Nat→Nat} {L a:List Nat} {D:Nat→Int×Int} (h:lq w c q a) (n:∀i∈a,i∈L) (m:jk w q L D):jk c q a D:=fun i b=>by
 obtain ⟨C,e,g,j⟩:=m i (n i b);obtain ⟨d,f,k,l⟩:=h i b C e;exact ⟨d,f,k.trans g,l.trans j⟩
theorem jk.below {w a:World} {q:Nat→Nat} {L:List Nat} {D:Nat→Int×Int} (f:jk w q L D) (e:Below w.heap.size w a):jk a q L D:=fun i g=>by
 obtain ⟨C,b,c,d⟩:=f i g;exact ⟨C,ae e b,c,d⟩
theorem jk.new {w:World} {q:Nat→Nat} {L:List Nat} {D:Nat→Int×Int} {n T:Nat} (f:jk w q L D) (b:∀i∈L,i < n):jk w q L (sH n T D):=fun i a=>by
 obtain ⟨C,c,d,e⟩:=f i a;exact ⟨C,c,by unfold sH;rw [if_pos (b i a)];exact d,by unfold sH;rw [if_pos (b i a)];exact e⟩
theorem ym {c j m T:Nat} {q:Nat→Nat} {r:Value} {S:bp} {w d:World} (h:bh c w j m q r S) (l:aL j w d):eZ j m q q S ⟨S.items,T⟩ w d∧lq w d q S.live:=by
 have a:∀i∈S.live,d.heap[q i]? =w.heap[q i]? :=fun i b=>by
  obtain ⟨_,v,x,f,_⟩:=h.mail i b;exact l.2 _ (fun e=>by unfold dL at f;rw [e,h.bag] at f;simp at f)
 refine ⟨⟨(aH.same l).mono (fun _ _ e=> .inl e),fun k g=> .inl ?_⟩,fun i b C p=>⟨C,(a i b).trans p,rfl,rfl⟩⟩
 rcases g with e | e | ⟨i,b,g⟩
 ·exact .inl e
 ·exact .inr (.inl e)
 ·refine .inr (.inr ⟨i,b,g.imp id ?_⟩);rintro ⟨C,z,n,o⟩;exact ⟨C,z,by rw [←a i b];exact n,o⟩
theorem zU {c f b:Nat} {q g:Nat→Nat} {B:Value} {S:bp} {m:aX} {w j:World} (h:bh c w f b q B S) (A:1≤m.tos.length) (n:aH (fun k=>k=f∨k=b) w j) (y:∀k,fM j f b g (S.plus m) k→fM w f b q S k∨w.heap.size≤k) (z:∀i∈S.live,g i=q i) (u:∃p,dL j (g S.items.length) m.time m.frm p m.body (m.time,0)):
  eZ f b q g S (S.plus m) w j∧∀D,jk w q S.live D→jk j g (S.plus m).live (sH S.items.length m.time D):=by
 refine ⟨⟨n.mono (fun _ _ e=>e.imp id .inl),y⟩,fun D t i a=>?_⟩;rw [lz A,List.mem_append,List.mem_singleton] at a
 rcases a with a | rfl
 ·obtain ⟨C,d,r,s⟩:=t i a;obtain ⟨_,v,x,l,_⟩:=h.mail i a;have o:=bq a;refine ⟨C,?_,by unfold sH;rw [if_pos o];exact r,by unfold sH;rw [if_pos o];exact s⟩
  rw [z i a];refine n.some_ d (fun e=>?_)
  rcases e with e | e
  ·rw [e,h.bag] at d;simp at d
  ·rw [e,show w.heap[b]? =_ from h.map] at d;simp at d
 ·obtain ⟨p,l⟩:=u;exact ⟨_,l,by unfold sH;rw [if_neg (Nat.lt_irrefl _)];rfl,by unfold sH;rw [if_neg (Nat.lt_irrefl _)];rfl⟩
def fR (base pb mb:Nat) (q:Nat→Nat) (vr:Value) (S S':bp) (T:Nat) (w:World) (e:Ending) (w':World):Prop:=
 e= .returned (.bool true)∧∃q',bh base w' pb mb q' vr S'∧eZ pb mb q q' S S' w w'∧∀D,jk w q S.live D→jk w' q' S'.live (sH S.items.length T D)
theorem fR.after {a c b T:Nat} {q:Nat→Nat} {d:Value} {S f:bp} {w j i:World} {e:Ending} (h:bh a w c b q d S) (g:Below w.heap.size w j) (t:fR a c b q d S f T j e i):fR a c b q d S f T w e i:=by
 obtain ⟨k,p,l,m,n⟩:=t;exact ⟨k,p,l,eZ.after h g m,fun D o=>n D (o.below g)⟩
class Kn where
 D0:Nat→Int×Int
 n0:Nat
 tk:Value
def bV [Kn] (S:bp) (i:Nat):Int×Int:=if i < Kn.n0 then Kn.D0 i else ((S.mailOf i).time,0)
open Go.ChangeMaps (setBlock)
section
variable {base pb mb:Nat} {q:Nat→Nat} {vr:Value} {S:bp} {w w':World}
theorem bh.dued (h:bh base w pb mb q vr S) {i:Nat} (m:i∈S.live) (T:Int):bh base (w.setCell ⟨q i,4,none⟩ (.int .i64 T)) pb mb q vr S:=by
 have k:aL (q i) w (w.setCell ⟨q i,4,none⟩ (.int .i64 T)):=(aL.refl _ _).setCell _;obtain ⟨s,u,y,f,t⟩:=h.mail i m;refine ⟨aP k h.bag (fun e=>?_),aP k h.map (fun e=>?_),h.pbb,h.mbb,h.one,fun j n=>?_⟩
 ·unfold dL at f;rw [←e,h.bag] at f;simp at f
 ·have:=h.map;unfold gh at this;unfold dL at f;rw [e,f] at this;simp at this
 ·obtain ⟨a,v,x,b,c⟩:=h.mail j n
  have d:(w.setCell ⟨q i,4,none⟩ (.int .i64 T)).ownsRow base 162 2 v (S.stayOf j).length (aR (S.stayOf j)):=ep c fun g o e _=>aP k e fun l=>by
   unfold dL at f;rw [l,f] at e;simp at e
  by_cases e:j=i
  ·subst e;have p:=heap_setCell_same w (q j) 4 _ _ (.int .i64 T) b;exact ⟨a,v,(T,x.2),p,d⟩
  ·exact ⟨a,v,x,aP k b (fun l=>e (h.one j n i m l)),d⟩
end
theorem xQ {q:Nat→Nat} {l:List Nat} {seen:Array Nat} {e:MapEntry} (h:e∈(Go.leftOf (cO q l) seen).toList):∃i∈l,e=nM q i:=by
 unfold Go.leftOf at h;simp only [Array.toList_filter,List.mem_filter,cT] at h;obtain ⟨i,a,rfl⟩:=List.mem_map.1 h.1;exact ⟨i,a,rfl⟩
theorem tR {q:Nat→Nat} {l:List Nat} (h:l.Nodup):((cO q l).toList.map (·.born)).Nodup:=by
 rw [cT,List.map_map];have e:((fun x:MapEntry=>x.born) ∘ nM q)=id:=by funext i;rfl
 rw [e,List.map_id];exact h
theorem nT {a:Array MapEntry} {seen:Array Nat} {e:MapEntry} (h:e∈(Go.leftOf a seen).toList):(Go.leftOf a (seen.push e.born)).size < (Go.leftOf a seen).size:=by
 unfold Go.leftOf at h ⊢;have b:∀p:MapEntry→Bool,(a.filter p).size=(a.toList.filter p).length:=fun p=>by rw [←Array.toList_filter,Array.length_toList]
 rw [b,b];rw [Array.toList_filter,List.mem_filter] at h;refine filter_lt _ _ (fun x c=>?_) e h.2 ?_ a.toList h.1
 ·simp only [Array.contains_push,Bool.not_eq_true',Bool.or_eq_false_iff] at c ⊢;exact c.1
 ·simp
theorem ja {W:World} {r b c:Nat} {a:Option Nat} {s:Array Nat} (h:W.heap[r]? =some (.mapIter a b s c)):W.iterSeen r=s:=by
 unfold World.iterSeen;rw [h]
structure se (w W:World) (base pb mb:Nat) (q:Nat→Nat) (vr:Value) (S:bp) (r:Nat) (seen:Array Nat):Prop where
 bag:bh base W pb mb q vr S
 it:W.heap[r]? =some (.mapIter (some mb) S.items.length seen S.items.length)
 touch:cJ [158] w W
 below:Below base w W
theorem ke (W:World) (r:Nat) (o:Obj):aL r W (setBlock W r o):=
 ⟨by simp [setBlock],fun k a=>by simp [setBlock,Ne.symm a],⟨rfl,rfl,rfl⟩⟩
theorem s9 {W:World} {r:Nat} (h:r < W.heap.size) (o:Obj):(setBlock W r o).heap[r]? =some o:=by simp [setBlock,h]
theorem F8 {f:List TypeId} {a b c:World} {r:Nat} (h:cJ f a b) (g:a.heap.size≤r) (d:aL r b c):cJ f a c:=
 ⟨by rw [d.1];exact h.1,fun k o e n=>(d.2 k (by have:=ah e;omega)).trans (h.2 k o e n),h.3.trans d.3⟩
section
variable {w W:World} {base pb mb:Nat} {q:Nat→Nat} {vr:Value} {S:bp} {r:Nat} {seen:Array Nat}
theorem se.step (h:se w W base pb mb q vr S r seen) (m:w.heap.size≤r) (n:base≤w.heap.size) (d:Array Nat):se w (setBlock W r (.mapIter (some mb) S.items.length d S.items.length)) base pb mb q vr S r d:=by
 have f:=ke W r (.mapIter (some mb) S.items.length d S.items.length);refine ⟨⟨aP f h.bag.bag (fun e=>?_),aP f h.bag.map (fun e=>?_),h.bag.pbb,h.bag.mbb,h.bag.one,fun i l=>?_⟩,s9 (ah h.it) _,F8 h.touch m f,h.below.trans (f.below (by omega))⟩
 ·have:=h.bag.bag;rw [e,h.it] at this;simp at this
 ·have:=h.bag.map;unfold gh at this;rw [e,h.it] at this;simp at this
 ·obtain ⟨a,v,x,b,c⟩:=h.bag.mail i l;refine ⟨a,v,x,aP f b (fun e=>?_),ep c fun g j e _=>aP f e fun k=>?_⟩
  ·unfold dL at b;rw [e,h.it] at b;simp at b
  ·rw [k,h.it] at e;simp at e
theorem se.drew (h:se w W base pb mb q vr S r seen):se w W.drew base pb mb q vr S r seen:=
 ⟨h.bag.keep ((Below.refl _ _).drew),h.it,h.touch.trans (cJ.below ((Below.refl _ _).drew)),h.below.drew⟩
theorem se.put (h:se w W base pb mb q vr S r seen) {i:Nat} (f:i∈S.live) (T:Int):se w (W.setCell ⟨q i,4,none⟩ (.int .i64 T)) base pb mb q vr S r seen:=by
 have d:aL (q i) W (W.setCell ⟨q i,4,none⟩ (.int .i64 T)):=(aL.refl _ _).setCell _;obtain ⟨a,v,x,b,c⟩:=h.bag.mail i f;refine ⟨h.bag.dued f T,aP d h.it (fun e=>?_),h.touch.same b (by simp) d,h.below.trans (d.below a)⟩;unfold dL at b;rw [←e,h.it] at b;simp at b
end
theorem np (base pb mb:Nat) (q:Nat→Nat) (vr:Value) (S:bp) (w:World) (h:bh base w pb mb q vr S):
  Calls Tryz.prog 76 #[.pointer (some ⟨pb,0,none⟩)] w fun e w'=>e= .returned (.tuple #[])∧bh base w' pb mb q vr S∧cJ [158] w w'∧Below base w w':=by
 have t:=h.le;have B:=run_range_map (P:=Tryz.prog) w 115 3 122 mb (cO q S.live) S.items.length Tryz.underlying115 h.map;have H:w.cell? ⟨pb,3,none⟩=some (.map (some mb)):=by rw [Lib.cell_of_heap h.bag];rfl
 have C:se w (w.alloc (.mapIter (some mb) S.items.length #[] S.items.length)) base pb mb q vr S w.heap.size #[]:=
  have z:Below w.heap.size w (w.alloc (.mapIter (some mb) S.items.length #[] S.items.length)):=(Below.refl _ _).alloc (Nat.le_refl _) _
  ⟨h.keep z,heap_alloc_new w _,cJ.below z,z.mono t⟩
 have k:=Lib.hid C;clear h C;go_enter Tryz.func76,Tryz.ntmps76;go_wp2_with fail
 obtain ⟨E,n⟩:∃E:World,w.alloc (.mapIter (some mb) S.items.length #[] S.items.length)=E:=⟨_,rfl⟩;rw [n] at k ⊢;clear n B H;go_loopw [] (fun w'=>∃seen:Array Nat,Hid (se w w' base pb mb q vr S w.heap.size seen)) (fun w'=>(Go.leftOf (cO q S.live) (w'.iterSeen w.heap.size)).size)
 case atStart=>exact ⟨#[],k⟩
 case round=>
  obtain ⟨seen,c⟩:=hrel
  have I:=run_next_at (P:=Tryz.prog) wr 0 w.heap.size mb S.items.length S.items.length seen (cO q S.live) S.items.length c.out.it c.out.bag.map (fun x F=>by
   rw [cT] at F;obtain ⟨i,s,rfl⟩:=List.mem_map.1 F
   exact bq s) (Nat.le_refl _)
  rcases I with ⟨_,a⟩ | ⟨e,A,G,u,a⟩
  ·go_wp2_with fail
   refine bodyPost_end (results_none rfl _ _ _) rfl ?_;exact ⟨rfl,c.out.bag,c.out.touch,c.out.below⟩
  ·obtain ⟨i,s,rfl⟩:=xQ A;have j:=Lib.hid (nT A)
   have D:se w G base pb mb q vr S w.heap.size seen:=by
    rcases u with rfl | rfl
    ·exact c.out
    ·exact c.out.drew
   have g:=D.step (Nat.le_refl _) t (seen.push (nM q i).born);obtain ⟨m,o⟩:∃m:World,setBlock G w.heap.size (.mapIter (some mb) S.items.length (seen.push (nM q i).born) S.items.length)=m:=⟨_,rfl⟩;rw [o] at a g;have p:=run_entry_at (P:=Tryz.prog) m w.heap.size mb S.items.length seen (cO q S.live) S.items.length (nM q i) g.it g.bag.map (by rw [cT];exact List.mem_map.2 ⟨i,s,rfl⟩) (tR (gJ S));have J:m.cell? ⟨pb,1,none⟩=some (.int .i64 S.time):=by rw [Lib.cell_of_heap g.bag.bag];rfl
   obtain ⟨_,v,x,b,_⟩:=g.bag.mail i s;have K:m.cell? ⟨q i,4,none⟩=some (.int .i64 x.1):=by rw [Lib.cell_of_heap b];rfl
   have L:=Lib.frozen_of_heap b 4;have l:=Lib.hid (g.put s S.time);have y:=Lib.hid c.out.it;have f:(nM q i).val= .pointer (some ⟨q i,0,none⟩):=rfl;have d:(nM q i).key= .int .i64 ((i:Int)+1):=rfl;rw [f,d] at a p;clear f d o D g b u A c;go_wp2_with fail
   exact ⟨⟨_,l⟩,by rw [ja l.out.it,ja y.out];exact j.out⟩
end Go.Proofs.YtofpegbpgkkgkaaGreatDoor
