import Derived.Test.YtofpegbpgkkgkaaGreatDoorS08
import Derived.Lib.Join
namespace Go.Proofs.YtofpegbpgkkgkaaGreatDoor
set_option maxHeartbeats 8000000
set_option maxRecDepth 1000000
open Go.RowKit
open Go.ChangeMaps (setBlock)
section
variable {base pb mb:Nat} {q:Nat→Nat} {vr:Value} {S:aa} {w w':World}
theorem bh.dued (h:bh base w pb mb q vr S) {i:Nat} (m:i∈S.live) (T:Int):bh base (w.setCell ⟨q i,4,none⟩ (.int .i64 T)) pb mb q vr S:=by
 have k:aL (q i) w (w.setCell ⟨q i,4,none⟩ (.int .i64 T)):=(aL.refl _ _).setCell _;obtain ⟨s,u,y,f,t⟩:=h.mail i m;refine ⟨aP k h.bag (fun e=>?_),aP k h.map (fun e=>?_),h.pbb,h.mbb,h.one,fun j n=>?_⟩
 ·unfold dL at f;rw [←e,h.bag] at f;simp at f
 ·have:=h.map;unfold gh at this;unfold dL at f;rw [e,f] at this;simp at this
 ·obtain ⟨a,v,x,b,c⟩:=h.mail j n
  have d:(w.setCell ⟨q i,4,none⟩ (.int .i64 T)).ownsRow base 162 2 v (S.stayOf j).length (aR (S.stayOf j)):=aA c fun g o e _=>aP k e fun l=>by
   unfold dL at f;rw [l,f] at e;simp at e
  by_cases e:j=i
  ·subst e;have p:=heap_setCell_same w (q j) 4 _ _ (.int .i64 T) b;exact ⟨a,v,(T,x.2),p,d⟩
  ·exact ⟨a,v,x,aP k b (fun l=>e (h.one j n i m l)),d⟩
end
theorem xQ {q:Nat→Nat} {l:List Nat} {seen:Array Nat} {e:MapEntry} (h:e∈(Go.leftOf (cO q l) seen).toList):∃i∈l,e=nM q i:=by
 unfold Go.leftOf at h;simp only [Array.toList_filter,List.mem_filter,cT] at h;obtain ⟨i,a,rfl⟩:=List.mem_map.1 h.1;exact ⟨i,a,rfl⟩
theorem tR {q:Nat→Nat} {l:List Nat} (h:l.Nodup):((cO q l).toList.map (·.born)).Nodup:=by
 rw [cT,List.map_map];have e:((fun x:MapEntry=>x.born) ∘ nM q)=id:=by funext i;rfl
 rw [e,List.map_id];exact h
theorem nT {a:Array MapEntry} {seen:Array Nat} {e:MapEntry} (h:e∈(Go.leftOf a seen).toList):(Go.leftOf a (seen.push e.born)).size < (Go.leftOf a seen).size:=by
 unfold Go.leftOf at h ⊢;have b:∀p:MapEntry→Bool,(a.filter p).size=(a.toList.filter p).length:=fun p=>by rw [←Array.toList_filter,Array.length_toList]
 rw [b,b];rw [Array.toList_filter,List.mem_filter] at h;refine filter_lt _ _ (fun x c=>?_) e h.2 ?_ a.toList h.1
 ·simp only [Array.contains_push,Bool.not_eq_true',Bool.or_eq_false_iff] at c ⊢;exact c.1
 ·simp
theorem ja {W:World} {r b c:Nat} {a:Option Nat} {s:Array Nat} (h:W.heap[r]? =some (.mapIter a b s c)):W.iterSeen r=s:=by
 unfold World.iterSeen;rw [h]
structure se (w W:World) (base pb mb:Nat) (q:Nat→Nat) (vr:Value) (S:aa) (r:Nat) (seen:Array Nat):Prop where
 bag:bh base W pb mb q vr S
 it:W.heap[r]? =some (.mapIter (some mb) S.items.length seen S.items.length)
 touch:cJ [158] w W
 below:Below base w W
theorem ke (W:World) (r:Nat) (o:Obj):aL r W (setBlock W r o):=
 ⟨by simp [setBlock],fun k a=>by simp [setBlock,Ne.symm a],⟨rfl,rfl,rfl⟩⟩
theorem s9 {W:World} {r:Nat} (h:r < W.heap.size) (o:Obj):(setBlock W r o).heap[r]? =some o:=by simp [setBlock,h]
theorem F8 {f:List TypeId} {a b c:World} {r:Nat} (h:cJ f a b) (g:a.heap.size≤r) (d:aL r b c):cJ f a c:=
 ⟨by rw [d.1];exact h.1,fun k o e n=>(d.2 k (by have:=ah e;omega)).trans (h.2 k o e n),h.3.trans d.3⟩
section
variable {w W:World} {base pb mb:Nat} {q:Nat→Nat} {vr:Value} {S:aa} {r:Nat} {seen:Array Nat}
theorem se.step (h:se w W base pb mb q vr S r seen) (m:w.heap.size≤r) (n:base≤w.heap.size) (d:Array Nat):se w (setBlock W r (.mapIter (some mb) S.items.length d S.items.length)) base pb mb q vr S r d:=by
 have f:=ke W r (.mapIter (some mb) S.items.length d S.items.length);refine ⟨⟨aP f h.bag.bag (fun e=>?_),aP f h.bag.map (fun e=>?_),h.bag.pbb,h.bag.mbb,h.bag.one,fun i l=>?_⟩,s9 (ah h.it) _,F8 h.touch m f,h.below.trans (f.below (by omega))⟩
 ·have:=h.bag.bag;rw [e,h.it] at this;simp at this
 ·have:=h.bag.map;unfold gh at this;rw [e,h.it] at this;simp at this
 ·obtain ⟨a,v,x,b,c⟩:=h.bag.mail i l;refine ⟨a,v,x,aP f b (fun e=>?_),aA c fun g j e _=>aP f e fun k=>?_⟩
  ·unfold dL at b;rw [e,h.it] at b;simp at b
  ·rw [k,h.it] at e;simp at e
theorem se.drew (h:se w W base pb mb q vr S r seen):se w W.drew base pb mb q vr S r seen:=
 ⟨h.bag.keep ((Below.refl _ _).drew),h.it,h.touch.trans (cJ.below ((Below.refl _ _).drew)),h.below.drew⟩
theorem se.put (h:se w W base pb mb q vr S r seen) {i:Nat} (f:i∈S.live) (T:Int):se w (W.setCell ⟨q i,4,none⟩ (.int .i64 T)) base pb mb q vr S r seen:=by
 have d:aL (q i) W (W.setCell ⟨q i,4,none⟩ (.int .i64 T)):=(aL.refl _ _).setCell _;obtain ⟨a,v,x,b,c⟩:=h.bag.mail i f;refine ⟨h.bag.dued f T,aP d h.it (fun e=>?_),h.touch.same b (by simp) d,h.below.trans (d.below a)⟩;unfold dL at b;rw [←e,h.it] at b;simp at b
end
theorem np (base pb mb:Nat) (q:Nat→Nat) (vr:Value) (S:aa) (w:World) (h:bh base w pb mb q vr S):
  Calls Tryz.prog 76 #[.pointer (some ⟨pb,0,none⟩)] w fun e w'=>e= .returned (.tuple #[])∧bh base w' pb mb q vr S∧cJ [158] w w'∧Below base w w':=by
 have t:=h.le;have B:=run_range_map (P:=Tryz.prog) w 115 3 122 mb (cO q S.live) S.items.length Tryz.underlying115 h.map;have H:w.cell? ⟨pb,3,none⟩=some (.map (some mb)):=by rw [Lib.cell_of_heap h.bag];rfl
 have C:se w (w.alloc (.mapIter (some mb) S.items.length #[] S.items.length)) base pb mb q vr S w.heap.size #[]:=
  have z:Below w.heap.size w (w.alloc (.mapIter (some mb) S.items.length #[] S.items.length)):=(Below.refl _ _).alloc (Nat.le_refl _) _
  ⟨h.keep z,heap_alloc_new w _,cJ.below z,z.mono t⟩
 have k:=Lib.hid C;clear h C;go_enter Tryz.func76,Tryz.ntmps76;go_wp2_with fail
 obtain ⟨E,n⟩:∃E:World,w.alloc (.mapIter (some mb) S.items.length #[] S.items.length)=E:=⟨_,rfl⟩;rw [n] at k ⊢;clear n B H;go_loopw [] (fun w'=>∃seen:Array Nat,Hid (se w w' base pb mb q vr S w.heap.size seen)) (fun w'=>(Go.leftOf (cO q S.live) (w'.iterSeen w.heap.size)).size)
 case atStart=>exact ⟨#[],k⟩
 case round=>
  obtain ⟨seen,c⟩:=hrel
  have I:=run_next_at (P:=Tryz.prog) wr 0 w.heap.size mb S.items.length S.items.length seen (cO q S.live) S.items.length c.out.it c.out.bag.map (fun x F=>by
   rw [cT] at F;obtain ⟨i,s,rfl⟩:=List.mem_map.1 F
   exact bq s) (Nat.le_refl _)
  rcases I with ⟨_,a⟩ | ⟨e,A,G,u,a⟩
  ·go_wp2_with fail
   refine bodyPost_end (results_none rfl _ _ _) rfl ?_;exact ⟨rfl,c.out.bag,c.out.touch,c.out.below⟩
  ·obtain ⟨i,s,rfl⟩:=xQ A;have j:=Lib.hid (nT A)
   have D:se w G base pb mb q vr S w.heap.size seen:=by
    rcases u with rfl | rfl
    ·exact c.out
    ·exact c.out.drew
   have g:=D.step (Nat.le_refl _) t (seen.push (nM q i).born);obtain ⟨m,o⟩:∃m:World,setBlock G w.heap.size (.mapIter (some mb) S.items.length (seen.push (nM q i).born) S.items.length)=m:=⟨_,rfl⟩;rw [o] at a g;have p:=run_entry_at (P:=Tryz.prog) m w.heap.size mb S.items.length seen (cO q S.live) S.items.length (nM q i) g.it g.bag.map (by rw [cT];exact List.mem_map.2 ⟨i,s,rfl⟩) (tR (gJ S));have J:m.cell? ⟨pb,1,none⟩=some (.int .i64 S.time):=by rw [Lib.cell_of_heap g.bag.bag];rfl
   obtain ⟨_,v,x,b,_⟩:=g.bag.mail i s;have K:m.cell? ⟨q i,4,none⟩=some (.int .i64 x.1):=by rw [Lib.cell_of_heap b];rfl
   have L:=Lib.frozen_of_heap b 4;have l:=Lib.hid (g.put s S.time);have y:=Lib.hid c.out.it;have f:(nM q i).val= .pointer (some ⟨q i,0,none⟩):=rfl;have d:(nM q i).key= .int .i64 ((i:Int)+1):=rfl;rw [f,d] at a p;clear f d o D g b u A c;go_wp2_with fail
   exact ⟨⟨_,l⟩,by rw [ja l.out.it,ja y.out];exact j.out⟩
theorem oQ (l:List UInt8) (w:World) (d:l.length≤281474976710656):Calls Tryz.prog 69 #[.string (bs l)] w fun e a=>e= .returned (.string (bs l))∧Below w.heap.size w a:=by
 have c:=Tryz.stringslite_Clone (bs l) w (by rw [aG];exact d);go_enter Tryz.func69,Tryz.ntmps69;go_wp2_with fail
 refine c.mono ?_;rintro e a ⟨rfl,b⟩;go_wp2_with fail
 go_ret;exact ⟨rfl,b⟩
def gy (l:List (Nat×List UInt8)):List (List UInt8):=l.map (·.2)
theorem Bq {D:Array Value} {k n:Nat} {b:List Value} {x:Value} (e:D.size=n) (f:k < n) (d:b.length=k) (h:D.toList.take k=b):(D.setIfInBounds k x).toList.take (k+1)=b++[x]:=by
 apply List.ext_getElem?;intro j;rw [List.getElem?_take]
 rcases Nat.lt_or_ge j k with c | c
 ·rw [if_pos (by omega),List.getElem?_append_left (by omega),Array.getElem?_toList,Array.getElem?_setIfInBounds_ne (by omega),←h,List.getElem?_take,if_pos c,Array.getElem?_toList]
 ·rw [List.getElem?_append_right (by omega),d]
  rcases Nat.lt_or_ge j (k+1) with a | a
  ·obtain rfl:j=k:=by omega
   rw [if_pos (by omega),Array.getElem?_toList,Array.getElem?_setIfInBounds];simp;omega
  ·rw [if_neg (by omega),List.getElem?_eq_none (by simp;omega)]
structure TS (w:World) (W:World) (s n:Nat) (D:Array Value) (xs:List Value) (k:Nat):Prop where
 size:D.size=n
 take:D.toList.take k=xs
 row:W.heap[s+1]? =some (.cells D 9 (0,0))
 mail:W.heap[s]? =some (.cells #[.int .i64 0,.int .i64 0,.string ⟨#[]⟩,.slice none 0 0,.string ⟨#[]⟩] 45 (0,0))
 below:Below s w W
 big:s+2≤W.heap.size
theorem TS.keep {w W b:World} {s n k:Nat} {D:Array Value} {c:List Value} (h:TS w W s n D c k) (a:Below W.heap.size W b):TS w b s n D c k:=
 ⟨h.size,h.take,ae a h.row,ae a h.mail,h.below.trans (a.mono (by have:=h.big;omega)),Nat.le_trans h.big a.size⟩
theorem TS.put {w W:World} {s n k:Nat} {D:Array Value} {b:List Value} (h:TS w W s n D b k) (c:k < n) (d:b.length=k) (x:Value):TS w (W.setCell ⟨s+1,k,none⟩ x) s n (D.setIfInBounds k x) (b++[x]) (k+1):=by
 have a:aL (s+1) W (W.setCell ⟨s+1,k,none⟩ x):=(aL.refl _ _).setCell _;exact ⟨by simp [h.size],Bq h.size c d h.take,heap_setCell_same W (s+1) k _ _ x h.row,aP a h.mail (by omega),h.below.trans (a.below (by omega)),by rw [a.1];exact h.big⟩
theorem IK {w W c:World} {l:List (Nat×List UInt8)} {g b:Nat} {d a:List UInt8} {D:Array Value} (h:TS w W w.heap.size l.length D (aB (gy l)) l.length)
  (f:(((((W.setCell ⟨w.heap.size,0,none⟩ (.int .i64 g)).setCell ⟨w.heap.size,1,none⟩ (.int .i64 b)).setCell ⟨w.heap.size,2,none⟩ (.string (bs d))).setCell ⟨w.heap.size,3,none⟩ (.slice (some ⟨w.heap.size+1,0,none⟩) l.length l.length)).setCell ⟨w.heap.size,4,none⟩ (.string (bs a)))=c) (i:l.length≤255):
  c.heap[w.heap.size]? =some (.cells #[.int .i64 g,.int .i64 b,.string (bs d),.slice (some ⟨w.heap.size+1,0,none⟩) l.length l.length,.string (bs a)] 45 (0,0))∧c.ownsRow w.heap.size 9 1 (.slice (some ⟨w.heap.size+1,0,none⟩) l.length l.length) l.length (aB (gy l))∧Below w.heap.size w c:=by
 have e:aL w.heap.size W c:=by rw [←f];exact (((((aL.refl _ _).setCell _).setCell _).setCell _).setCell _).setCell _
 refine ⟨?_,⟨by simp [aB,gy],.inr ⟨w.heap.size+1,l.length,D,rfl,by omega,aP e h.row (by omega),Nat.le_refl _,by unfold maxLen;omega,by rw [h.size];omega,?_⟩⟩,h.below.trans (e.below (Nat.le_refl _))⟩
 ·rw [←f];exact heap_setCell_same _ _ 4 _ _ _ (heap_setCell_same _ _ 3 _ _ _ (heap_setCell_same _ _ 2 _ _ _ (heap_setCell_same _ _ 1 _ _ _ (heap_setCell_same _ _ 0 _ _ _ h.mail))))
 ·rw [Nat.mul_one,h.take]
theorem IJ (O q id d:Nat) (f b:List UInt8) (v:Value) (l:List (Nat×List UInt8)) (x:Int×Int) (w:World) (h:dL w q d f v b x) (hv:w.ownsRow O 162 2 v l.length (aR l)) (hl:l.length≤255) (hf:f.length≤255) (b6:b.length≤1048576) (hn:∀x∈l,x.2.length≤255):
  Calls Tryz.prog 60 #[.pointer (some ⟨q,0,none⟩),.int .i64 id] w fun e A=>∃g,e= .returned (.agg (aY ⟨id,d,f,gy l,b⟩ (.slice (some ⟨g,0,none⟩) l.length l.length)))∧w.heap.size≤g∧A.ownsRow w.heap.size 9 1 (.slice (some ⟨g,0,none⟩) l.length l.length) l.length (aB (gy l))∧Below w.heap.size w A:=by
 have HV:=Lib.hid hv;have HH:=Lib.hid h
 obtain ⟨E,H,rfl⟩:∃a c,v= .slice a l.length c:=by
  rcases hv.2 with ⟨e,h0⟩ | ⟨g,b5,b1,e,_⟩
  ·exact ⟨_,_,by rw [h0];exact e⟩
  ·exact ⟨_,_,e⟩
 have X:=fun A=>Dc (P:=Tryz.prog) Tryz.underlying25 nR l.length (by omega) (by omega) A;obtain ⟨C,eC⟩:∃C,madeCells (Value.string ⟨#[]⟩).cells (l.length * 1)=C:=⟨_,rfl⟩;have S:C.size=l.length:=by rw [←eC];simp [madeCells]
 rw [eC] at X;obtain ⟨W0,p⟩:∃W0:World,(w.alloc (.cells #[.int .i64 0,.int .i64 0,.string ⟨#[]⟩,.slice none 0 0,.string ⟨#[]⟩] 45)).alloc (.cells C 9)=W0:=⟨_,rfl⟩
 have T0:Hid (TS w W0 w.heap.size l.length C [] 0):=Lib.hid ⟨S,rfl,by
   rw [←p];have:=heap_alloc_new (w.alloc (.cells #[.int .i64 0,.int .i64 0,.string ⟨#[]⟩,.slice none 0 0,.string ⟨#[]⟩] 45)) (.cells C 9);simpa using this,by
   rw [←p];exact ae ((Below.refl _ _).alloc (Nat.le_refl _) _) (heap_alloc_new w _),by
   rw [←p]
   exact ((Below.refl _ _).alloc (Nat.le_refl _) _).alloc (by simp) _,by rw [←p];simp⟩
 have b3:q < w.heap.size:=sZ h
 have k0:∀o:Obj,(w.alloc o).cell? ⟨q,2,none⟩=some (.slice E l.length H):=fun o=>by
  rw [Lib.cell_of_heap (ae ((Below.refl _ w).alloc (Nat.le_refl _) o) h)];rfl
 have k1:∀o o':Obj,((w.alloc o).alloc o').cell? ⟨q,2,none⟩=some (.slice E l.length H):=fun o o'=>by
  rw [Lib.cell_of_heap (ae ((Below.refl _ (w.alloc o)).alloc (Nat.le_refl _) o') (ae ((Below.refl _ w).alloc (Nat.le_refl _) o) h))];rfl
 have a7:=Lib.hid p;clear h hv p;go_enter Tryz.func60,Tryz.ntmps60;go_wp2_with fail
 rw [a7.out];have a5:Hid (∀x∈l,x.2.length≤255):=Lib.hid hn;clear k0 k1 hn X;go_loopw [6,7,19] (fun _ _ i A=>∃(k:Nat) (D:Array Value),k≤l.length∧i= .int .i64 k∧Hid (TS w A w.heap.size l.length D (aB (gy (l.take k))) k)) (fun _ _ i _=>l.length - (intOf i).toNat)
 case atStart=>exact ⟨0,C,Nat.zero_le _,rfl,T0⟩
 case round=>
  clear T0 S eC;obtain ⟨k,D,hk,rfl,z⟩:=hrel
  by_cases t:k < l.length
  ·have b4:(k:Int) < (l.length:Int):=by omega
   obtain ⟨g,rfl,Q,R⟩:∃g,E=some ⟨g,0,none⟩∧w.cell? ⟨g,k * 2,none⟩=some (.int .i64 (l[k].1:Int))∧w.cell? ⟨g,k * 2+1,none⟩=some (.string (bs l[k].2)):=by
    rcases HV.out.2 with ⟨_,h0⟩ | ⟨g,cp,b1,e,_,hg,_,_,_,Y⟩
    ·omega
    ·injection e with e1 _ _;refine ⟨g,e1,?_,?_⟩
     ·rw [Lib.cell_of_heap hg,←Array.getElem?_toList,←List.getElem?_take_of_lt (show k * 2 < l.length * 2 by omega),Y];exact (dP l k t).1
     ·rw [Lib.cell_of_heap hg,←Array.getElem?_toList,←List.getElem?_take_of_lt (show k * 2+1 < l.length * 2 by omega),Y];exact (dP l k t).2
   have d0:wr.cell? ⟨g,k * 2,none⟩=some (.int .i64 (l[k].1:Int)):=(z.out.below.cell (by exact aC Q)).trans Q;have d1:wr.cell? ⟨g,k * 2+1,none⟩=some (.string (bs l[k].2)):=(z.out.below.cell (by exact aC R)).trans R;have Z:=a5.out l[k] (List.getElem_mem t);have B:Hid (aB (gy (l.take (k+1)))=aB (gy (l.take k))++[.string (bs l[k].2)]):=Lib.hid (by rw [List.take_succ_eq_append_getElem t];unfold gy aB;rw [List.map_append,List.map_append];rfl);have a9:Hid ((aB (gy (l.take k))).length=k):=Lib.hid (by simp [gy,aB];omega);obtain ⟨x,ex⟩:∃x,l[k]=x:=⟨_,rfl⟩;rw [ex] at d0 d1 Z B;obtain ⟨P,T⟩:=x;simp only at d0 d1 Z B;obtain ⟨W1,F⟩:∃W1:World,wr.alloc (.cells #[.int .i64 (P:Int),.string (bs T)] 162)=W1:=⟨_,rfl⟩;have B1:Below wr.heap.size wr W1:=by rw [←F];exact (Below.refl _ _).alloc (Nat.le_refl _) _
   have T1:=Lib.hid (z.out.keep B1);have a8:=Lib.hid F;have a3:=Lib.hid (oQ T W1 (by omega));clear ex Q R z B1 F;go_wp2_with fail
   rw [a8.out];refine a3.out.mono ?_;rintro e w2 ⟨rfl,V⟩;have N:=T1.out.keep V;have x0:∃u,w2.cell? ⟨w.heap.size+1,k,none⟩=some u:=by rw [Lib.cell_of_heap N.row];exact ⟨_,Array.getElem?_eq_getElem (by have:=N.size;omega)⟩
   obtain ⟨u0,x0⟩:=x0;have y0:=Lib.frozen_of_heap N.row k;have T3:=Lib.hid (N.put t a9.out (.string (bs T)));clear N V;go_wp2_with fail
   exact ⟨⟨k+1,_,by omega,by go_num,Lib.hid (by rw [B.out];exact T3.out)⟩,by simp [intOf];omega⟩
  ·have b2:k=l.length:=by omega
   subst b2;rw [List.take_length] at z;have U:dL wr q d f (.slice E l.length H) b x:=(z.out.below.block q b3).trans HH.out;have p0:wr.drew.cell? ⟨q,0,none⟩=some (.int .i64 d):=by show wr.cell? _=_;rw [Lib.cell_of_heap U];rfl
   have p1:wr.drew.cell? ⟨q,1,none⟩=some (.string (bs f)):=by show wr.cell? _=_;rw [Lib.cell_of_heap U];rfl
   have p3:wr.drew.cell? ⟨q,3,none⟩=some (.string (bs b)):=by show wr.cell? _=_;rw [Lib.cell_of_heap U];rfl
   have a6:=Lib.hid (z.out.keep ((Below.refl _ _).drew));have a4:Hid (dL wr.drew q d f (.slice E l.length H) b x):=Lib.hid U;have a2:=Lib.hid (oQ f wr.drew (by omega));have a1:Hid (∀W:World,Calls Tryz.prog 69 #[.string (bs b)] W fun e A=>e= .returned (.string (bs b))∧Below W.heap.size W A):=Lib.hid (fun W=>oQ b W (by omega));clear U z;go_wp2_with fail
   go_region_law (first
    | (go_simp;go_at_call 69;refine a2.out.mono ?_;rintro e w9 ⟨rfl,G⟩;have T9:=Lib.hid (a6.out.keep G);have P9:Hid (dL w9 q d f (.slice E l.length H) b x):=Lib.hid (ae G a4.out);have b7:w9.cell? ⟨q,0,none⟩=some (.int .i64 d):=(by rw [Lib.cell_of_heap P9.out];rfl);have b8:w9.cell? ⟨q,3,none⟩=some (.string (bs b)):=(by rw [Lib.cell_of_heap P9.out];rfl);clear G)
    | (go_simp;go_at_call 69;refine (a1.out w9).mono ?_;rintro e j ⟨rfl,s⟩;have r:=T9.out.keep s;have M:dL j q d f (.slice E l.length H) b x:=ae s P9.out;have a0:j.cell? ⟨q,0,none⟩=some (.int .i64 d):=(by rw [Lib.cell_of_heap M];rfl);have m0:j.cell? ⟨w.heap.size,0,none⟩=some (.int .i64 0):=(by rw [Lib.cell_of_heap r.mail];rfl);have m1:j.cell? ⟨w.heap.size,1,none⟩=some (.int .i64 0):=(by rw [Lib.cell_of_heap r.mail];rfl);have m2:j.cell? ⟨w.heap.size,2,none⟩=some (.string ⟨#[]⟩):=(by rw [Lib.cell_of_heap r.mail];rfl);have m3:j.cell? ⟨w.heap.size,3,none⟩=some (.slice none 0 0):=(by rw [Lib.cell_of_heap r.mail];rfl);have m4:j.cell? ⟨w.heap.size,4,none⟩=some (.string ⟨#[]⟩):=(by rw [Lib.cell_of_heap r.mail];rfl);have n0:=Lib.frozen_of_heap r.mail 0;have n1:=Lib.frozen_of_heap r.mail 1;have n2:=Lib.frozen_of_heap r.mail 2;have n3:=Lib.frozen_of_heap r.mail 3;have n4:=Lib.frozen_of_heap r.mail 4;have b0:=Lib.hid r;clear s r M))
   all_goals
    obtain ⟨m,y⟩:∃m:World,(((((j.setCell ⟨w.heap.size,0,none⟩ (.int .i64 id)).setCell ⟨w.heap.size,1,none⟩ (.int .i64 d)).setCell ⟨w.heap.size,2,none⟩ (.string (bs f))).setCell ⟨w.heap.size,3,none⟩ (.slice (some ⟨w.heap.size+1,0,none⟩) l.length l.length)).setCell ⟨w.heap.size,4,none⟩ (.string (bs b)))=m:=⟨_,rfl⟩;rw [y];obtain ⟨n,L,I⟩:=IK b0.out y hl;have Q:m.cell? ⟨w.heap.size,0,none⟩=some (.int .i64 id):=by rw [Lib.cell_of_heap n];rfl
    have R:m.cell? ⟨w.heap.size,1,none⟩=some (.int .i64 d):=by rw [Lib.cell_of_heap n];rfl
    have c2:m.cell? ⟨w.heap.size,2,none⟩=some (.string (bs f)):=by rw [Lib.cell_of_heap n];rfl
    have c3:m.cell? ⟨w.heap.size,3,none⟩=some (.slice (some ⟨w.heap.size+1,0,none⟩) l.length l.length):=by rw [Lib.cell_of_heap n];rfl
    have c4:m.cell? ⟨w.heap.size,4,none⟩=some (.string (bs b)):=by rw [Lib.cell_of_heap n];rfl
    have K:=Lib.hid L;have J:=Lib.hid I;clear y n L I m0 m1 m2 m3 m4 n0 n1 n2 n3 n4 a0 p0 p1 p3;go_wp2_with fail
    refine bodyPost_ret (v:= .agg #[.int .i64 id,.int .i64 d,.string (bs f),.slice (some ⟨w.heap.size+1,0,none⟩) l.length l.length,.string (bs b)]) (by simp [results,Tryz.results60,go_sem,Q,R,c2,c3,c4]) rfl ?_;exact ⟨w.heap.size+1,rfl,by omega,K.out,J.out⟩
structure aQ where
 i:Nat
 said:Nat
 una:List (Nat×List UInt8)
 wil:List (Nat×List UInt8)
 came:List (Nat×Bool)
def yQ:List UInt8:=[13,10]
def aQ.leave (t:aQ) (l:List (Nat×List UInt8)) (b:Bool):aQ:={t with came:=t.came++l.map fun x=>(x.1,b)}
def aQ.say (t:aQ) (s:Nat) (l:List UInt8):aQ×List UInt8:=({t with said:=s},l++yQ)
def aQ.quit (t:aQ):aQ×List UInt8:=t.say 6 [81,85,73,84]
def aQ.ask (t:aQ):aQ×List UInt8:=
 match t.una with
 | r::_=>t.say 3 ([82,67,80,84,32,84,79,58,60]++r.2++[62])
 | []=>if t.wil=[] then t.quit else t.say 4 [68,65,84,65]
def aQ.hear (host frm sent:List UInt8) (t:aQ) (a:Nat):aQ×List UInt8:=
 if t.said=0 then (if a=2 then t.say 1 ([69,72,76,79,32]++host) else t.quit)
 else if t.said=1 then (if a=2 then t.say 2 ([77,65,73,76,32,70,82,79,77,58,60]++frm++[62]) else t.quit)
 else if t.said=2 then (if a=2 then t.ask else if a=5 then (t.leave t.una false).quit else t.quit)
 else if t.said=3 then
  (if a=2 then ({t with una:=t.una.drop 1,wil:=t.wil++t.una.take 1}:aQ).ask
  else if a=5 then (({t with una:=t.una.drop 1}:aQ).leave (t.una.take 1) false).ask
  else ({t with una:=t.una.drop 1}:aQ).ask)
 else if t.said=4 then (if a=3 then t.say 5 (sent++yQ++[46]) else if a=5 then (t.leave t.wil false).quit else t.quit)
 else (if a=2 then (t.leave t.wil true).quit else if a=5 then (t.leave t.wil false).quit else t.quit)
def aQ.act (t:aQ):List Nat:=(if t.said=6 then [] else (t.una++t.wil).map (·.1))++t.came.map (·.1)
structure dC (L:List (Nat×List UInt8)) (t:aQ):Prop where
 said:t.said≤6
 una:t.said=3→t.una≠[]
 nd:t.act.Nodup
 sub:∀x∈t.act,x∈L.map (·.1)
 room:t.act.length≤L.length
 mem:∀x∈t.una++t.wil,x∈L
theorem dC.le {L:List (Nat×List UInt8)} {t a:aQ} (h:dC L t) (c:a.said≤6) (d:a.said=3→a.una≠[]) (f:∃m:List Nat,m.Perm a.act∧m.Sublist t.act) (e:∀x∈a.una++a.wil,x∈t.una++t.wil):dC L a:=by
 obtain ⟨m,p,s⟩:=f;exact ⟨c,d,p.nodup_iff.1 (h.nd.sublist s),fun x b=>h.sub x (s.subset (p.mem_iff.2 b)),by rw [←p.length_eq];exact Nat.le_trans s.length_le h.room,fun x b=>h.mem x (e x b)⟩
theorem Kf {t:aQ} (h:t.said=6):t.act=t.came.map (·.1):=by unfold aQ.act;rw [if_pos h];rfl
theorem lG {t:aQ} (h:t.said≠6):t.act=(t.una++t.wil).map (·.1)++t.came.map (·.1):=by unfold aQ.act;rw [if_neg h]
theorem nY {L:List (Nat×List UInt8)} {t:aQ} (h:dC L t):dC L t.quit.1:=by
 refine h.le (by show 6≤6;omega) (by show 6=3→_;omega) ⟨_,List.Perm.refl _,?_⟩ (fun x a=>a);rw [Kf (by rfl)];unfold aQ.act;exact List.sublist_append_right _ _
theorem lT {L l:List (Nat×List UInt8)} {t:aQ} (h:dC L t) (a:t.said≠6) (c:l=t.una∨l=t.wil) (b:Bool):dC L (t.leave l b).quit.1:=by
 refine h.le (by show 6≤6;omega) (by show 6=3→_;omega) ⟨l.map (·.1)++t.came.map (·.1),?_,?_⟩ (fun x d=>d)
 ·rw [Kf (by rfl)];show List.Perm _ ((t.came++l.map fun x=>(x.1,b)).map (·.1));rw [List.map_append,List.map_map];exact List.perm_append_comm
 ·rw [lG a];refine List.Sublist.append_right ?_ _;rw [List.map_append]
  rcases c with rfl | rfl
  ·exact List.sublist_append_left _ _
  ·exact List.sublist_append_right _ _
theorem yz {L:List (Nat×List UInt8)} {t:aQ} (h:dC L t) (b:t.said≠6):dC L t.ask.1:=by
 unfold aQ.ask
 split
 ·rename_i r u e
  refine h.le (by show 3≤6;omega) (fun _=>by show t.una≠[];rw [e];simp) ⟨_,List.Perm.refl _,?_⟩ (fun x a=>a);rw [lG b,lG (by show 3≠6;omega)];exact List.Sublist.refl _
 ·split
  ·exact nY h
  ·refine h.le (by show 4≤6;omega) (by show 4=3→_;omega) ⟨_,List.Perm.refl _,?_⟩ (fun x a=>a);rw [lG b,lG (by show 4≠6;omega)];exact List.Sublist.refl _
theorem DF {L:List (Nat×List UInt8)} {t:aQ} (h:dC L t) (b:t.said≠6) (s:Nat) (d:s < 6) (a:s≠3) (l:List UInt8):dC L (t.say s l).1:=by
 refine h.le (by show s≤6;omega) (fun e=>absurd e a) ⟨_,List.Perm.refl _,?_⟩ (fun x c=>c);rw [lG b,lG (by show s≠6;omega)];exact List.Sublist.refl _
theorem Gq {L:List (Nat×List UInt8)} {t:aQ} (h:dC L t) (e:t.said=3):∃r u,t.una=r::u∧dC L {t with said:=4,una:=t.una.drop 1,wil:=t.wil++t.una.take 1}∧dC L (({t with said:=4,una:=t.una.drop 1}:aQ).leave (t.una.take 1) false)∧dC L {t with said:=4,una:=t.una.drop 1}:=by
 have f:=h.una e;obtain ⟨i,d,una,a,b⟩:=t;simp only at e f;subst e
 cases una with
 | nil=>exact absurd rfl f
 | cons r u=>
  refine ⟨r,u,rfl,?_,?_,?_⟩
  ·refine h.le (by show 4≤6;omega) (by show 4=3→_;omega) ⟨_,?_,List.Sublist.refl _⟩ (fun x c=>?_)
   ·show List.Perm (((r::u)++a).map (·.1)++b.map (·.1)) ((u++(a++[r])).map (·.1)++b.map (·.1));refine List.Perm.append_right _ (List.Perm.map _ ?_);rw [←List.append_assoc];exact List.perm_append_singleton r (u++a) |>.symm
   ·have c:x∈u++(a++[r]):=c;show x∈(r::u)++a;simp only [List.mem_append,List.mem_cons,List.not_mem_nil,or_false] at c ⊢
    rcases c with c | c | c
    ·exact .inl (.inr c)
    ·exact .inr c
    ·exact .inl (.inl c)
  ·refine h.le (by show 4≤6;omega) (by show 4=3→_;omega) ⟨_,?_,List.Sublist.refl _⟩ (fun x c=>?_)
   ·show List.Perm (((r::u)++a).map (·.1)++b.map (·.1)) ((u++a).map (·.1)++(b++[(r.1,false)]).map (·.1));rw [List.map_append (l₁:=b),←List.append_assoc];exact List.perm_append_singleton r.1 _ |>.symm
   ·have c:x∈u++a:=c;show x∈(r::u)++a;exact List.mem_cons_of_mem _ c
  ·refine h.le (by show 4≤6;omega) (by show 4=3→_;omega) ⟨_,List.Perm.refl _,?_⟩ (fun x c=>?_)
   ·show List.Sublist ((u++a).map (·.1)++b.map (·.1)) (((r::u)++a).map (·.1)++b.map (·.1));exact List.sublist_cons_self _ _
   ·have c:x∈u++a:=c;show x∈(r::u)++a;exact List.mem_cons_of_mem _ c
theorem Ei {L:List (Nat×List UInt8)} {t:aQ} (h:dC L t) (b:t.said≠6) (c e d:List UInt8) (a:Nat):dC L (t.hear c e d a).1:=by
 unfold aQ.hear
 split
 ·split
  ·exact DF h b 1 (by omega) (by omega) _
  ·exact nY h
 ·split
  ·split
   ·exact DF h b 2 (by omega) (by omega) _
   ·exact nY h
  ·split
   ·split
    ·exact yz h b
    ·split
     ·exact lT h b (.inl rfl) _
     ·exact nY h
   ·split
    ·rename_i f
     obtain ⟨r,u,_,g,i,j⟩:=Gq h f
     split
     ·have:=yz g (by show 4≠6;omega);exact this
     ·split
      ·have:=yz i (by show 4≠6;omega);exact this
      ·have:=yz j (by show 4≠6;omega);exact this
    ·split
     ·split
      ·exact DF h b 5 (by omega) (by omega) _
      ·split
       ·exact lT h b (.inr rfl) _
       ·exact nY h
     ·split
      ·exact lT h b (.inr rfl) _
      ·split
       ·exact lT h b (.inr rfl) _
       ·exact nY h
def aQ.took (t:aQ) (b:Bool):List Nat:=((t.came.filter fun x=>x.2 == b).map (·.1)).mergeSort (fun x y=>decide (x≤y))
theorem oc (t:aQ) (b:Bool):(t.took b).Perm ((t.came.filter fun x=>x.2 == b).map (·.1)):=List.mergeSort_perm _ _
theorem ob {t:aQ} {b:Bool} {x:Nat} (h:x∈t.took b):x∈t.came.map (·.1):=by
 rw [(oc t b).mem_iff,List.mem_map] at h;obtain ⟨y,a,rfl⟩:=h;exact List.mem_map.2 ⟨y,(List.mem_filter.1 a).1,rfl⟩
theorem tU {L:List (Nat×List UInt8)} {t:aQ} (h:dC L t):(t.came.map (·.1)).Nodup:=h.nd.sublist (by unfold aQ.act;exact List.sublist_append_right _ _)
theorem mn {L:List (Nat×List UInt8)} {t:aQ} (h:dC L t) {x:Nat} (k:x∈t.took true) (m:x∈t.took false):False:=by
 rw [(oc t _).mem_iff,List.mem_map] at k m;obtain ⟨y,e,i⟩:=k;obtain ⟨z,f,j⟩:=m;rw [List.mem_filter,beq_iff_eq] at e f;have o:t.came.Pairwise (fun a b=>a.1≠b.1):=List.pairwise_map.1 (tU h)
 have g:∀(l:List (Nat×Bool)),l.Pairwise (fun a b=>a.1≠b.1)→y∈l→z∈l→y=z:=by
  intro l n
  induction n with
  | nil=>intro a;cases a
  | cons ha _ ih=>
   intro a b
   rcases List.mem_cons.1 a with d | d
   ·rcases List.mem_cons.1 b with c | c
    ·rw [d,c]
    ·exact absurd (i.trans j.symm) (by rw [d];exact ha z c)
   ·rcases List.mem_cons.1 b with c | c
    ·exact absurd (j.trans i.symm) (by rw [c];exact ha y d)
    ·exact ih d c
 have:=g _ o e.1 f.1;rw [this] at e;rw [f.2] at e;exact absurd e.2 (by decide)
theorem iu {L:List (Nat×List UInt8)} {t:aQ} (h:dC L t) (b:Bool):(t.took b).Pairwise (·< ·):=by
 have d:(t.took b).Pairwise (fun x y=>decide (x≤y)=true):=List.pairwise_mergeSort (fun a b c d e=>by simp only [decide_eq_true_eq] at *;omega) (fun a b=>by simp only [Bool.or_eq_true,decide_eq_true_eq];omega) _;have e:(t.took b).Nodup:=(oc t b).nodup_iff.2 ((tU h).sublist ((List.filter_sublist).map _))
 exact (d.and e).imp fun {a b} hab=>by
  have:=hab.1;simp only [decide_eq_true_eq] at this;have:=hab.2;omega
theorem kF {L:List (Nat×List UInt8)} {t:aQ} (h:dC L t) (b:Bool):(t.took b).length≤L.length:=by
 rw [(oc t b).length_eq,List.length_map];have c:=List.length_filter_le (fun x:Nat×Bool=>x.2 == b) t.came;have a:=h.room;unfold aQ.act at a;rw [List.length_append,List.length_map] at a;omega
theorem qP:(Tryz.prog.info? 3).map (fun i=>(i.zero,i.size,i.bytes))=some (some (.int .i64 0),1,8):=by kernel_rfl
structure PS (w W:World) (s n:Nat) (D:Array Value) (xs:List Value) (k:Nat):Prop where
 size:D.size=n
 take:D.toList.take k=xs
 row:W.heap[s]? =some (.cells D 3 (0,0))
 below:Below s w W
 big:s+1≤W.heap.size
theorem PS.keep {w W b:World} {s n k:Nat} {D:Array Value} {c:List Value} (h:PS w W s n D c k) (a:Below W.heap.size W b):PS w b s n D c k:=
 ⟨h.size,h.take,ae a h.row,h.below.trans (a.mono (by have:=h.big;omega)),Nat.le_trans h.big a.size⟩
theorem PS.put {w W:World} {s n k:Nat} {D:Array Value} {a:List Value} (h:PS w W s n D a k) (c:k < n) (d:a.length=k) (x:Value):PS w (W.setCell ⟨s,k,none⟩ x) s n (D.setIfInBounds k x) (a++[x]) (k+1):=by
 have b:aL s W (W.setCell ⟨s,k,none⟩ x):=(aL.refl _ _).setCell _;exact ⟨by simp [h.size],Bq h.size c d h.take,heap_setCell_same W s k _ _ x h.row,h.below.trans (b.below (by omega)),by rw [b.1];exact h.big⟩
theorem Dr (s q B:Nat) (N t:List UInt8) (v:Value) (l:List (Nat×List UInt8)) (x:Int×Int) (w:World) (h:dL w q B N v t x) (Q:w.ownsRow s 162 2 v l.length (aR l)) (hl:l.length≤255):
  Calls Tryz.prog 84 #[.pointer (some ⟨q,0,none⟩)] w fun e n=>∃g,e= .returned (.slice (some ⟨g,0,none⟩) l.length l.length)∧n.ownsRow w.heap.size 3 1 (.slice (some ⟨g,0,none⟩) l.length l.length) l.length (aZ (l.map (·.1)))∧Below w.heap.size w n:=by
 have HV:=Lib.hid Q
 obtain ⟨I,V,rfl⟩:∃a c,v= .slice a l.length c:=by
  rcases Q.2 with ⟨e,Z⟩ | ⟨g,a1,L,e,_⟩
  ·exact ⟨_,_,by rw [Z];exact e⟩
  ·exact ⟨_,_,e⟩
 have z:=fun n=>Dc (P:=Tryz.prog) Tryz.underlying28 qP l.length (by omega) (by omega) n;obtain ⟨C,M⟩:∃C,madeCells (Value.int .i64 0).cells (l.length * 1)=C:=⟨_,rfl⟩;have y:C.size=l.length:=by rw [←M];simp [madeCells]
 rw [M] at z;obtain ⟨H,b⟩:∃H:World,w.alloc (.cells C 3)=H:=⟨_,rfl⟩;have U:Hid (PS w H w.heap.size l.length C [] 0):=Lib.hid ⟨y,rfl,by rw [←b];exact heap_alloc_new w _,by rw [←b];exact (Below.refl _ _).alloc (Nat.le_refl _) _,by rw [←b];simp⟩
 have k0:w.cell? ⟨q,2,none⟩=some (.slice I l.length V):=by rw [Lib.cell_of_heap h];rfl
 have k1:∀o:Obj,(w.alloc o).cell? ⟨q,2,none⟩=some (.slice I l.length V):=fun o=>by rw [Lib.cell_of_heap (ae ((Below.refl _ w).alloc (Nat.le_refl _) o) h)];rfl
 have E:=Lib.hid b;clear h Q b;go_enter Tryz.func84,Tryz.ntmps84;go_wp2_with fail
 rw [E.out];clear k0 k1 z;go_loopw [4,5,17] (fun _ _ i n=>∃(k:Nat) (D:Array Value),k≤l.length∧i= .int .i64 k∧Hid (PS w n w.heap.size l.length D (aZ ((l.map (·.1)).take k)) k)) (fun _ _ i _=>l.length - (intOf i).toNat)
 case atStart=>exact ⟨0,C,Nat.zero_le _,rfl,U⟩
 case round=>
  clear U y M;obtain ⟨k,D,hk,rfl,j⟩:=hrel
  by_cases f:k < l.length
  ·have a0:(k:Int) < (l.length:Int):=by omega
   obtain ⟨g,rfl,J,K⟩:∃g,I=some ⟨g,0,none⟩∧w.cell? ⟨g,k * 2,none⟩=some (.int .i64 (l[k].1:Int))∧w.cell? ⟨g,k * 2+1,none⟩=some (.string (bs l[k].2)):=by
    rcases HV.out.2 with ⟨_,Z⟩ | ⟨g,cp,L,e,_,hg,_,_,_,A⟩
    ·omega
    ·injection e with e1 _ _;refine ⟨g,e1,?_,?_⟩
     ·rw [Lib.cell_of_heap hg,←Array.getElem?_toList,←List.getElem?_take_of_lt (show k * 2 < l.length * 2 by omega),A];exact (dP l k f).1
     ·rw [Lib.cell_of_heap hg,←Array.getElem?_toList,←List.getElem?_take_of_lt (show k * 2+1 < l.length * 2 by omega),A];exact (dP l k f).2
   have W:wr.cell? ⟨g,k * 2,none⟩=some (.int .i64 (l[k].1:Int)):=(j.out.below.cell (by exact aC J)).trans J;have X:wr.cell? ⟨g,k * 2+1,none⟩=some (.string (bs l[k].2)):=(j.out.below.cell (by exact aC K)).trans K;have m:Hid (aZ ((l.map (·.1)).take (k+1))=aZ ((l.map (·.1)).take k)++[.int .i64 (l[k].1:Int)]):=Lib.hid (by rw [List.take_succ_eq_append_getElem (by rw [List.length_map];exact f)];unfold aZ;rw [List.map_append,List.getElem_map];rfl);have G:Hid ((aZ ((l.map (·.1)).take k)).length=k):=Lib.hid (by simp [aZ];omega);obtain ⟨x,Y⟩:∃x,l[k]=x:=⟨_,rfl⟩;rw [Y] at W X m;obtain ⟨P,T⟩:=x;simp only at W X m;obtain ⟨r,d⟩:∃r:World,wr.alloc (.cells #[.int .i64 (P:Int),.string (bs T)] 162)=r:=⟨_,rfl⟩;have S:Below wr.heap.size wr r:=by rw [←d];exact (Below.refl _ _).alloc (Nat.le_refl _) _
   have p:=j.out.keep S;have R:∃u,r.cell? ⟨w.heap.size,k,none⟩=some u:=by rw [Lib.cell_of_heap p.row];exact ⟨_,Array.getElem?_eq_getElem (by have:=p.size;omega)⟩
   obtain ⟨u0,R⟩:=R;have y0:=Lib.frozen_of_heap p.row k;have z0:r.cell? ⟨wr.heap.size,0,none⟩=some (.int .i64 (P:Int)):=by rw [←d,Lib.cell_of_heap (heap_alloc_new wr _)];rfl
   have T3:=Lib.hid (p.put f G.out (.int .i64 (P:Int)));have F:=Lib.hid d;rw [←d] at R y0;clear Y J K j S d p z0;go_wp2_with fail
   rw [F.out];exact ⟨⟨k+1,_,by omega,by go_num,Lib.hid (by rw [m.out];exact T3.out)⟩,by simp [intOf];omega⟩
  ·have O:k=l.length:=by omega
   subst O;go_wp2_with fail
   go_ret;refine ⟨w.heap.size,rfl,⟨by simp [aZ],.inr ⟨w.heap.size,l.length,D,rfl,Nat.le_refl _,j.out.row,Nat.le_refl _,by unfold maxLen;omega,by rw [j.out.size];omega,?_⟩⟩,j.out.below⟩
   rw [Nat.mul_one,j.out.take,List.take_of_length_le (by rw [List.length_map];exact Nat.le_refl _)]
def oo:ByteArray:=⟨#[13,10]⟩
def l9 (body:List UInt8):List ByteArray:=Lib.splitB oo 0 (Lib.countB (bs body) oo) (bs body)
def ky (x:ByteArray):ByteArray:=if Lib.hasPrefix x.data.toList [46] then (⟨#[46]⟩:ByteArray)++x else x
def mD (body:List UInt8):List UInt8:=Lib.join (((l9 body).map ky).map (·.data.toList)) [13,10]
theorem nG (a:ByteArray):∀(k:Nat) (s:ByteArray),∀x∈Lib.splitB a 0 k s,x.size≤s.size
 | 0,s,x,h=>by rw [Lib.splitB_zero,List.mem_singleton] at h;rw [h];exact Nat.le_refl _
 | k+1,s,x,h=>by
  unfold Lib.splitB at h
  split at h
  ·rw [List.mem_singleton] at h;rw [h];exact Nat.le_refl _
  ·rcases List.mem_cons.1 h with e | e
   ·rw [e,ByteArray.size_extract];omega
   ·have:=nG a k _ x e;rw [ByteArray.size_extract] at this;omega
theorem rP (a:List UInt8):(l9 a).length=Lib.countB (bs a) oo+1:=Lib.splitB_all oo (by decide) 0 _ _ rfl
theorem rC (a:List UInt8):Lib.countB (bs a) oo≤a.length:=by
 have:=Lib.countB_le oo (by decide) _ (bs a) (Nat.le_refl _)
 rwa [aG] at this
theorem GF (x:ByteArray):(ky x).size≤x.size+1:=by
 unfold ky
 split
 ·rw [ByteArray.size_append];show 1+x.size≤_;omega
 ·omega
theorem Jj {a:List (List UInt8)} {m:Nat} (h:∀x∈a,x.length≤m):Lib.lens a≤a.length * m:=by
 unfold Lib.lens
 induction a with
 | nil=>simp
 | cons x a ih=>
  have c:=ih (fun y b=>h y (List.mem_cons_of_mem _ b));have d:=h x (List.mem_cons_self ..);simp only [List.map_cons,List.sum_cons,List.length_cons,Nat.add_mul];omega
theorem BH (a:List UInt8) (h:a.length≤1048576):(mD a).length≤10000000000000:=by
 unfold mD
 have c:∀x∈((l9 a).map ky).map (·.data.toList),x.length≤1048577:=by
  intro x g;obtain ⟨y,i,rfl⟩:=List.mem_map.1 g;obtain ⟨z,c,rfl⟩:=List.mem_map.1 i;have f:=nG oo _ _ z c;have j:=GF z;rw [aG] at f;show (ky z).data.toList.length≤_;rw [Array.length_toList];have:(ky z).data.size=(ky z).size:=rfl;omega
 have b:(((l9 a).map ky).map (·.data.toList)).length=Lib.countB (bs a) oo+1:=by rw [List.length_map,List.length_map,rP]
 have k:=rC a;have d:=Jj c;obtain ⟨X,e⟩:∃X,((l9 a).map ky).map (·.data.toList)=X:=⟨_,rfl⟩;rw [e] at b d ⊢;rw [b] at d
 cases X with
 | nil=>simp at b
 | cons x r=>
  rw [Lib.join_length];simp only [List.length_cons] at b;have:(Lib.countB (bs a) oo+1) * 1048577≤1048577 * 1048577:=Nat.mul_le_mul_right _ (by omega);show 2 * r.length+_≤_;omega
def Bj (X:List ByteArray) (k:Nat):List ByteArray:=(X.take k).map ky++X.drop k
theorem Jo {X:List ByteArray} {k:Nat} (h:k < X.length):(Bj X k)[k]? =some X[k]:=by
 unfold Bj;rw [List.getElem?_append_right (by rw [List.length_map,List.length_take];omega),List.length_map,List.length_take,Nat.min_eq_left (Nat.le_of_lt h),Nat.sub_self,List.getElem?_drop,Nat.add_zero,List.getElem?_eq_getElem h]
theorem Bk {X:List ByteArray} {k:Nat} (h:k < X.length):Bj X (k+1)=(X.take k).map ky++(ky X[k]::X.drop (k+1)):=by
 unfold Bj;rw [List.take_succ_eq_append_getElem h,List.map_append,List.append_assoc];rfl
theorem Jp {X:List ByteArray} {k:Nat} (h:k < X.length):(Bj X k).set k (ky X[k])=Bj X (k+1):=by
 rw [Bk h];unfold Bj;rw [List.set_append_right _ _ (by rw [List.length_map,List.length_take];omega),List.length_map,List.length_take,Nat.min_eq_left (Nat.le_of_lt h),Nat.sub_self,List.drop_eq_getElem_cons h];rfl
theorem Ht {X:List ByteArray} {k:Nat} (h:k < X.length) (a:ky X[k]=X[k]):Bj X k=Bj X (k+1):=by
 rw [Bk h,a];unfold Bj;rw [List.drop_eq_getElem_cons h]
theorem Hu (X:List ByteArray):Bj X 0=X:=by simp [Bj]
theorem Jn (X:List ByteArray):Bj X X.length=X.map ky:=by simp [Bj]
def rh (l:List ByteArray):Array Value:=(l.map Value.string).toArray
theorem DN (l:List ByteArray) (k:Nat) (y:ByteArray):(rh l).setIfInBounds k (.string y)=rh (l.set k y):=by simp [rh,List.map_set]
theorem vI (l:List ByteArray) (k:Nat):(rh l)[k]? =l[k]?.map Value.string:=by simp [rh]
theorem zH (a:List UInt8) (m:Int) (w:World) (T:w.cell? ⟨0,0,none⟩=some (.int .i64 m)) (Y:a.length≤1048576):
  Calls Tryz.prog 130 #[.string (bs a)] w fun e n=>e= .returned (.string (bs (mD a)))∧Below w.heap.size w n:=by
 have M:=aG a;have s:=Lib.hid (Tryz.strings_Split (bs a) ⟨#[13,10]⟩ m w (by omega) T (by decide));have f:=rP a;have I:=rC a;have q:Hid (∀x∈l9 a,x.size≤a.length):=Lib.hid (fun x N=>by have:=nG oo _ _ x N;rwa [aG] at this);have E:=Lib.hid (BH a Y);obtain ⟨X,g⟩:∃X,l9 a=X:=⟨_,rfl⟩;have t:Lib.splitB ⟨#[13,10]⟩ 0 (Lib.countB (bs a) ⟨#[13,10]⟩) (bs a)=X:=g;have R:Lib.countB (bs a) ⟨#[13,10]⟩+1=X.length:=by rw [←g];exact f.symm
 have W:X.length≤1048577:=by rw [←g,f];omega
 have r:Hid (mD a=Lib.join ((X.map ky).map (·.data.toList)) [13,10]):=Lib.hid (by unfold mD;rw [g]);rw [g] at q;rw [t,R] at s;obtain ⟨A,b⟩:∃A:World,w.alloc (.cells (X.map Value.string).toArray 9)=A:=⟨_,rfl⟩;have O:Below w.heap.size w A:=by rw [←b];exact (Below.refl _ _).alloc (Nat.le_refl _) _
 have Q:A.heap[w.heap.size]? =some (.cells (X.map Value.string).toArray 9 (0,0)):=by rw [←b];exact heap_alloc_new w _
 have F:=Lib.hid b;have B:=Lib.hid O;have G:=Lib.hid Q;clear T g t R f I O Q b M;go_enter Tryz.func130,Tryz.ntmps130;go_wp2_with fail
 refine s.out.mono ?_;rintro e w1 ⟨rfl,rfl⟩;rw [F.out];go_wp2_with fail
 go_loopw [4,5,10] (fun _ _ i n=>∃k:Nat,k≤X.length∧i= .int .i64 k∧Hid (n.heap[w.heap.size]? =some (.cells (rh (Bj X k)) 9 (0,0)))∧Hid (Below w.heap.size w n)) (fun _ _ i _=>X.length - (intOf i).toNat)
 case atStart=>exact ⟨0,Nat.zero_le _,rfl,Lib.hid (by rw [Hu];exact G.out),B⟩
 case round=>
  obtain ⟨k,hk,rfl,d,v⟩:=hrel
  by_cases c:k < X.length
  ·have S:(k:Int) < (X.length:Int):=by omega
   have N:wr.cell? ⟨w.heap.size,k,none⟩=some (.string X[k]):=by rw [Lib.cell_of_heap d.out,vI,Jo c];rfl
   have fx:=Lib.frozen_of_heap d.out k;have L:=q.out X[k] (List.getElem_mem c);have p:=Lib.hid (Jp c);have o:Hid (ky X[k]=X[k]→Bj X k=Bj X (k+1)):=Lib.hid (Ht c);obtain ⟨x,H⟩:∃x,X[k]=x:=⟨_,rfl⟩;rw [H] at N L p o;have z:Hid (Calls Tryz.prog 178 #[.string x,.string ⟨#[46]⟩] wr fun e n=>e= .returned (.bool (Lib.hasPrefix x.data.toList [46]))∧wr=n):=Lib.hid ((Tryz.strings_HasPrefix x ⟨#[46]⟩ wr).mono fun _ _ h=>⟨h.1,h.2.symm⟩);have U:¬9223372036854775807 < 1+x.size:=by omega
   cases l:Lib.hasPrefix x.data.toList [46] with
   | true=>
    have D:Hid (ky x=(⟨#[46]⟩:ByteArray)++x):=Lib.hid (by unfold ky;rw [l];rfl);rw [l] at z;clear l H;go_wp2_with (first | (go_at_call 178;refine z.out.mono ?_;rintro e V ⟨rfl,rfl⟩) | fail)
    refine ⟨⟨k+1,by omega,by go_num,Lib.hid ?_,Lib.hid (v.out.trans (((aL.refl w.heap.size wr).setCell _).below (Nat.le_refl _)))⟩,by simp [intOf];omega⟩
    rw [heap_setCell_same wr w.heap.size k _ _ _ d.out,DN,←p.out,D.out]
   | false=>
    have D:Hid (ky x=x):=Lib.hid (by unfold ky;rw [l];rfl);rw [l] at z;clear l H;go_wp2_with (first | (go_at_call 178;refine z.out.mono ?_;rintro e V ⟨rfl,rfl⟩) | fail)
    exact ⟨⟨k+1,by omega,by go_num,Lib.hid (by rw [d.out,o.out D.out]),v⟩,by simp [intOf];omega⟩
  ·have J:k=X.length:=by omega
   subst J;rw [Jn] at d;have K:(X.map ky).length=X.length:=List.length_map ..
   have P:=Lib.hid (Tryz.strings_Join w.heap.size 0 X.length (X.map ky) ⟨#[13,10]⟩ wr (fun j y Z=>by
    rw [Nat.zero_add,Lib.cell_of_heap d.out,vI,Z];rfl) (ah d.out) (by omega) (by omega) (by
    have:=E.out;rw [r.out] at this;have e:(⟨#[13,10]⟩:ByteArray).data.toList=[13,10]:=rfl;rw [e]
    omega))
   rw [K,show (⟨#[13,10]⟩:ByteArray).data.toList=[13,10] from rfl,←r.out] at P;go_wp2_with fail
   refine P.out.mono ?_;rintro e V ⟨rfl,u⟩;have C:=Lib.hid (v.out.trans (u.mono v.out.size));clear u;go_wp2_with fail
   go_ret;exact ⟨rfl,C.out⟩
end Go.Proofs.YtofpegbpgkkgkaaGreatDoor
