import Derived.Test.YtofpegbpgkkgkaaGreatDoorS16
import Derived.Test.YtofpegbpgkkgkaaGreatDoorS14
import Derived.Conc.SmallLaws
import Derived.Orders
namespace Go.Proofs.YtofpegbpgkkgkaaGreatDoor
set_option maxHeartbeats 8000000
set_option maxRecDepth 1000000
open Go.RowKit
def dz:Nat→aa→Nat→List UInt8→aa×Nat
 | 0,S,k,_=>(S,k)
 | f+1,S,k,l=>
  match ji l with
  | none=>(S,k)
  | some c=>match S.takes c.1 with
   | none=>(S,k)
   | some S'=>dz f S' (k+8+c.1.length) c.2
def bw (l:List UInt8):aa×Nat:=dz (l.length+1) ⟨[],0⟩ 0 l
theorem gP {f k:Nat} {S:aa} {l:List UInt8} (h:ji l=none):dz (f+1) S k l=(S,k):=by
 rw [dz,h]
theorem jf {f k:Nat} {S:aa} {l:List UInt8} {c:List UInt8×List UInt8} (h:ji l=some c) (a:S.takes c.1=none):dz (f+1) S k l=(S,k):=by
 rw [dz,h];simp only [a]
theorem fP {f k:Nat} {S a:aa} {l:List UInt8} {c:List UInt8×List UInt8} (h:ji l=some c) (b:S.takes c.1=some a):dz (f+1) S k l=dz f a (k+8+c.1.length) c.2:=by
 rw [dz,h];simp only [b]
theorem pI (l:List UInt8):ji l=if l.length < 8+be (l.take 4)∨¬be ((l.drop 4).take 4)=sV ((l.drop 8).take (be (l.take 4))) then none else some ((l.drop 8).take (be (l.take 4)),(l.drop 8).drop (be (l.take 4))):=by
 have e:(l.drop 4).drop 4=l.drop 8:=by rw [List.drop_drop]
 have g:(l.drop 8).length=l.length - 8:=List.length_drop;unfold ji fZ
 by_cases c:4≤l.length
 ·rw [if_pos c];simp only [sb]
  by_cases a:4≤(l.drop 4).length
  ·rw [if_pos a];simp only [sb];rw [e];unfold bm;rw [List.length_drop] at a;obtain ⟨r,f⟩:∃r,l.drop 8=r:=⟨_,rfl⟩;rw [f] at g ⊢
   by_cases d:be (l.take 4)≤r.length
   ·rw [if_pos d];simp only [sb]
    by_cases b:sV (r.take (be (l.take 4)))=be ((l.drop 4).take 4)
    ·rw [if_pos b,if_neg (by
      rintro (h | h)
      ·omega
      ·exact h b.symm)]
    ·rw [if_neg b,if_pos (.inr (fun h=>b h.symm))]
   ·rw [if_neg d,if_pos (.inl (by omega))];rfl
  ·rw [if_neg a];rw [List.length_drop] at a;rw [if_pos (.inl (by omega))];rfl
 ·rw [if_neg c,if_pos (.inl (by omega))];rfl
theorem uV (S:aa) (K:Nat) (a:List Nat):(S.outs K a).items.length=S.items.length∧(S.outs K a).time=S.time:=by
 unfold aa.outs;simp
theorem yV (S:aa) (m:aX) (a:List Nat) (T:Nat):(S.failed m a T).items.length≤S.items.length+1∧(S.failed m a T).time=T:=by
 unfold aa.failed
 split <;> simp
theorem rY {S d:aa} {l:List UInt8} (h:S.takes l=some d) (f:S.time≤1000000000):d.items.length≤S.items.length+1∧d.time≤1000000000:=by
 cases l with
 | nil=>cases h
 | cons c r=>
  unfold aa.takes at h;simp only at h
  split at h
  ·split at h
   ·rename_i b
    injection h with h;subst h;rw [Bool.and_eq_true] at b;have a:=b.1;unfold qp at a;simp only [Bool.and_eq_true,decide_eq_true_eq] at a;exact ⟨by simp,a.1.1.1.1.1.2⟩
   ·cases h
  ·split at h
   ·split at h
    ·injection h with h;subst h;have:=uV S ((bI r).1 - 1) (bI r).2;exact ⟨by omega,by omega⟩
    ·cases h
   ·split at h
    ·split at h
     ·rename_i b
      injection h with h;subst h;simp only [Bool.and_eq_true,decide_eq_true_eq] at b;have a:=uV S ((bI (r.drop 4)).1 - 1) (bI (r.drop 4)).2;have e:=yV (S.outs ((bI (r.drop 4)).1 - 1) (bI (r.drop 4)).2) (S.mailOf ((bI (r.drop 4)).1 - 1)) (bI (r.drop 4)).2 (be (r.take 4));exact ⟨by omega,by omega⟩
     ·cases h
    ·cases h
theorem ku {l:List UInt8} {c:List UInt8×List UInt8} (h:ji l=some c):l.length=8+c.1.length+c.2.length:=by
 rw [pI] at h
 split at h
 ·cases h
 ·rename_i a
  injection h with h;subst h;simp only [List.length_take,List.length_drop];have:¬l.length < 8+be (l.take 4):=fun e=>a (.inl e);omega
def jF (l:List (List UInt8)) (t:List UInt8):List (List UInt8):=if l.contains t then l else l++[t]
theorem zk (l:List (List UInt8)) (t:List UInt8) (v:Value) (w:World) (h:bg w v l.length 1 (aB l)) (hl:l.length≤255):
  Calls Tryz.prog 55 #[v,.string (bs t)] w fun e E=>∃H,e= .returned H∧bg E H (jF l t).length 1 (aB (jF l t))∧Below w.heap.size w E∧(H=v∨∀g,H.ownBlock=some g→w.heap.size≤g):=by
 have HV:=Lib.hid h;obtain ⟨a,a0,rfl,V⟩:=h.one;have HC:=Lib.hid V;obtain ⟨i,Y,B,C,D⟩:=info_parts nR
 have p:Hid (∀(W:World) (q:Value) (n:Nat) (F:List (List UInt8)) (y:List UInt8),n=F.length→W.ownsRow 0 9 1 q n (aB F)→(∀g,q.ownBlock=some g→w.heap.size≤g)→Below w.heap.size w W→n≤255→∃g m j,(Builtin.append_ #[25,25] 25 #[q,.slice (some ⟨W.heap.size,0,none⟩) 1 1]).run Tryz.prog (W.alloc (.cells #[.string (bs y)] 9))= .ok (.slice (some ⟨g,0,none⟩) (n+1) m) j∧j.ownsRow 0 9 1 (.slice (some ⟨g,0,none⟩) (n+1) m) (n+1) (aB (F++[y]))∧w.heap.size≤g∧Below w.heap.size w j):=Lib.hid (fun W q n F y hn ho X Q hx=>by
  obtain ⟨g,m,j,r,o,f,s⟩:=pv (P:=Tryz.prog) Tryz.underlying25 Y B C D rfl W (W.alloc (.cells #[.string (bs y)] 9)) q (.string (bs y)) n (aB F) ho rfl ((Below.refl _ _).alloc (Nat.le_refl _) _) (heap_alloc_new W _) (by unfold maxLen;omega) (by omega);refine ⟨g,m,j,r,?_,s.elim (X g) (fun e=>Nat.le_trans Q.size e),Q.trans ⟨f.still.1,f.still.2.1,f.still.2.2,f.size,fun k hk=>f.block k (by have:=Q.size;omega) (fun e=>by have:=X k e;omega)⟩⟩;unfold aB at o ⊢;rw [List.map_append]
  exact o)
 clear V h Y B C D;go_enter Tryz.func55,Tryz.ntmps55;go_wp2_with fail
 go_loopw [5,6] (fun q i E=>∃k:Nat,k≤l.length∧i= .int .i64 k∧Hid (t ∉ l.take k)∧Hid (E.ownsRow 0 9 1 q k (aB (l.take k)))∧Hid (∀g,q.ownBlock=some g→w.heap.size≤g)∧Hid (Below w.heap.size w E)) (fun _ i _=>l.length - (intOf i).toNat)
 case atStart=>exact ⟨0,Nat.zero_le _,rfl,Lib.hid (by simp),Lib.hid (World.ownsRow_nil _ _ _ _),Lib.hid (fun g e=>by cases e),Lib.hid (Below.refl _ _)⟩
 case round=>
  obtain ⟨k,hk,rfl,L,G,U,x⟩:=hrel;obtain ⟨ao,co,eo⟩:=aE (aF G.out);subst eo
  by_cases d:k < l.length
  ·have Z:(k:Int) < (l.length:Int):=by omega
   obtain ⟨b,T,rfl,R,c⟩:=HC.out k d;rw [eh l k d] at c;have N:wr.cell? ⟨b,T+k,none⟩=some (.string (bs l[k])):=(x.out.cell R).trans c
   by_cases u:t=l[k]
   ·have hq:((bs l[k]).toList == (bs t).toList)=true:=by rw [tS];simpa using u.symm
    have z:Hid (jF l t=l):=Lib.hid (by unfold jF;rw [if_pos];rw [List.contains_iff_mem,u];exact List.getElem_mem d);clear u c;go_wp2_with fail
    go_ret;exact ⟨_,rfl,by rw [z.out];exact HV.out.below x.out,x.out,.inl rfl⟩
   ·have hq:((bs l[k]).toList == (bs t).toList)=false:=by rw [tS];simpa using fun e=>u e.symm
    have z:=Lib.hid (qi d L.out u);obtain ⟨g,m,j,r,o,f,s⟩:=p.out wr _ k (l.take k) l[k] (by rw [List.length_take];omega) G.out U.out x.out (by omega);rw [←List.take_succ_eq_append_getElem d] at o;have M:=Lib.hid r;have I:=Lib.hid o;have J:=Lib.hid f;have K:=Lib.hid s;clear u c r o f s
    go_wp2_with (first
     | (at_builtin;refine bB rfl _ _ 25 rfl _ _ (.slice (some ⟨g,0,none⟩) (k+1) m) j rfl rfl M.out ?_)
     | fail)
    exact ⟨⟨k+1,by omega,by go_num,z,I,Lib.hid (fun O e=>by have e:g=O:=(by simpa [Value.ownBlock] using e);have:=J.out;omega),K⟩,by simp [intOf];omega⟩
  ·have S:k=l.length:=by omega
   subst S;rw [List.take_length] at L G;have z:Hid (jF l t=l++[t]):=Lib.hid (by unfold jF;rw [if_neg];rw [List.contains_iff_mem];exact L.out);obtain ⟨g,m,j,r,o,f,s⟩:=p.out wr _ l.length l t rfl G.out U.out x.out (by omega);have M:=Lib.hid r;have I:=Lib.hid o;have J:=Lib.hid f;have K:=Lib.hid s;clear r o f s
   go_wp2_with (first
    | (at_builtin;refine bB rfl _ _ 25 rfl _ _ (.slice (some ⟨g,0,none⟩) (l.length+1) m) j rfl rfl M.out ?_)
    | fail)
   go_ret;have A:=aF I.out;refine ⟨.slice (some ⟨g,0,none⟩) (l.length+1) m,rfl,?_,K.out,.inr fun O e=>?_⟩
   ·rw [z.out,List.length_append,List.length_singleton];exact A
   ·have e:g=O:=by simpa [Value.ownBlock] using e
    have:=J.out;omega
open Go.ChangeMaps (setBlock)
section
variable {base pb mb:Nat} {q:Nat→Nat} {vr:Value} {S:aa} {w w':World}
theorem bh.dued (h:bh base w pb mb q vr S) {i:Nat} (m:i∈S.live) (T:Int):bh base (w.setCell ⟨q i,4,none⟩ (.int .i64 T)) pb mb q vr S:=by
 have k:aL (q i) w (w.setCell ⟨q i,4,none⟩ (.int .i64 T)):=(aL.refl _ _).setCell _;obtain ⟨s,u,y,f,t⟩:=h.mail i m;refine ⟨aP k h.bag (fun e=>?_),aP k h.map (fun e=>?_),h.pbb,h.mbb,h.one,fun j n=>?_⟩
 ·unfold dL at f;rw [←e,h.bag] at f;simp at f
 ·have:=h.map;unfold gh at this;unfold dL at f;rw [e,f] at this;simp at this
 ·obtain ⟨a,v,x,b,c⟩:=h.mail j n
  have d:(w.setCell ⟨q i,4,none⟩ (.int .i64 T)).ownsRow base 162 2 v (S.stayOf j).length (aR (S.stayOf j)):=aA c fun g o e _=>aP k e fun l=>by
   unfold dL at f;rw [l,f] at e;simp at e
  by_cases e:j=i
  ·subst e;have p:=heap_setCell_same w (q j) 4 _ _ (.int .i64 T) b;exact ⟨a,v,(T,x.2),p,d⟩
  ·exact ⟨a,v,x,aP k b (fun l=>e (h.one j n i m l)),d⟩
end
theorem xQ {q:Nat→Nat} {l:List Nat} {seen:Array Nat} {e:MapEntry} (h:e∈(Go.leftOf (cO q l) seen).toList):∃i∈l,e=nM q i:=by
 unfold Go.leftOf at h;simp only [Array.toList_filter,List.mem_filter,cT] at h;obtain ⟨i,a,rfl⟩:=List.mem_map.1 h.1;exact ⟨i,a,rfl⟩
theorem tR {q:Nat→Nat} {l:List Nat} (h:l.Nodup):((cO q l).toList.map (·.born)).Nodup:=by
 rw [cT,List.map_map];have e:((fun x:MapEntry=>x.born) ∘ nM q)=id:=by funext i;rfl
 rw [e,List.map_id];exact h
theorem nT {a:Array MapEntry} {seen:Array Nat} {e:MapEntry} (h:e∈(Go.leftOf a seen).toList):(Go.leftOf a (seen.push e.born)).size < (Go.leftOf a seen).size:=by
 unfold Go.leftOf at h ⊢;have b:∀p:MapEntry→Bool,(a.filter p).size=(a.toList.filter p).length:=fun p=>by rw [←Array.toList_filter,Array.length_toList]
 rw [b,b];rw [Array.toList_filter,List.mem_filter] at h;refine filter_lt _ _ (fun x c=>?_) e h.2 ?_ a.toList h.1
 ·simp only [Array.contains_push,Bool.not_eq_true',Bool.or_eq_false_iff] at c ⊢;exact c.1
 ·simp
theorem ja {W:World} {r b c:Nat} {a:Option Nat} {s:Array Nat} (h:W.heap[r]? =some (.mapIter a b s c)):W.iterSeen r=s:=by
 unfold World.iterSeen;rw [h]
structure se (w W:World) (base pb mb:Nat) (q:Nat→Nat) (vr:Value) (S:aa) (r:Nat) (seen:Array Nat):Prop where
 bag:bh base W pb mb q vr S
 it:W.heap[r]? =some (.mapIter (some mb) S.items.length seen S.items.length)
 touch:cJ [158] w W
 below:Below base w W
theorem ke (W:World) (r:Nat) (o:Obj):aL r W (setBlock W r o):=
 ⟨by simp [setBlock],fun k a=>by simp [setBlock,Ne.symm a],⟨rfl,rfl,rfl⟩⟩
theorem s9 {W:World} {r:Nat} (h:r < W.heap.size) (o:Obj):(setBlock W r o).heap[r]? =some o:=by simp [setBlock,h]
theorem F8 {f:List TypeId} {a b c:World} {r:Nat} (h:cJ f a b) (g:a.heap.size≤r) (d:aL r b c):cJ f a c:=
 ⟨by rw [d.1];exact h.1,fun k o e n=>(d.2 k (by have:=ah e;omega)).trans (h.2 k o e n),h.3.trans d.3⟩
section
variable {w W:World} {base pb mb:Nat} {q:Nat→Nat} {vr:Value} {S:aa} {r:Nat} {seen:Array Nat}
theorem se.step (h:se w W base pb mb q vr S r seen) (m:w.heap.size≤r) (n:base≤w.heap.size) (d:Array Nat):se w (setBlock W r (.mapIter (some mb) S.items.length d S.items.length)) base pb mb q vr S r d:=by
 have f:=ke W r (.mapIter (some mb) S.items.length d S.items.length);refine ⟨⟨aP f h.bag.bag (fun e=>?_),aP f h.bag.map (fun e=>?_),h.bag.pbb,h.bag.mbb,h.bag.one,fun i l=>?_⟩,s9 (ah h.it) _,F8 h.touch m f,h.below.trans (f.below (by omega))⟩
 ·have:=h.bag.bag;rw [e,h.it] at this;simp at this
 ·have:=h.bag.map;unfold gh at this;rw [e,h.it] at this;simp at this
 ·obtain ⟨a,v,x,b,c⟩:=h.bag.mail i l;refine ⟨a,v,x,aP f b (fun e=>?_),aA c fun g j e _=>aP f e fun k=>?_⟩
  ·unfold dL at b;rw [e,h.it] at b;simp at b
  ·rw [k,h.it] at e;simp at e
theorem se.drew (h:se w W base pb mb q vr S r seen):se w W.drew base pb mb q vr S r seen:=
 ⟨h.bag.keep ((Below.refl _ _).drew),h.it,h.touch.trans (cJ.below ((Below.refl _ _).drew)),h.below.drew⟩
theorem se.put (h:se w W base pb mb q vr S r seen) {i:Nat} (f:i∈S.live) (T:Int):se w (W.setCell ⟨q i,4,none⟩ (.int .i64 T)) base pb mb q vr S r seen:=by
 have d:aL (q i) W (W.setCell ⟨q i,4,none⟩ (.int .i64 T)):=(aL.refl _ _).setCell _;obtain ⟨a,v,x,b,c⟩:=h.bag.mail i f;refine ⟨h.bag.dued f T,aP d h.it (fun e=>?_),h.touch.same b (by simp) d,h.below.trans (d.below a)⟩;unfold dL at b;rw [←e,h.it] at b;simp at b
end
theorem np (base pb mb:Nat) (q:Nat→Nat) (vr:Value) (S:aa) (w:World) (h:bh base w pb mb q vr S):
  Calls Tryz.prog 76 #[.pointer (some ⟨pb,0,none⟩)] w fun e w'=>e= .returned (.tuple #[])∧bh base w' pb mb q vr S∧cJ [158] w w'∧Below base w w':=by
 have t:=h.le;have B:=run_range_map (P:=Tryz.prog) w 115 3 122 mb (cO q S.live) S.items.length Tryz.underlying115 h.map;have H:w.cell? ⟨pb,3,none⟩=some (.map (some mb)):=by rw [Lib.cell_of_heap h.bag];rfl
 have C:se w (w.alloc (.mapIter (some mb) S.items.length #[] S.items.length)) base pb mb q vr S w.heap.size #[]:=
  have z:Below w.heap.size w (w.alloc (.mapIter (some mb) S.items.length #[] S.items.length)):=(Below.refl _ _).alloc (Nat.le_refl _) _
  ⟨h.keep z,heap_alloc_new w _,cJ.below z,z.mono t⟩
 have k:=Lib.hid C;clear h C;go_enter Tryz.func76,Tryz.ntmps76;go_wp2_with fail
 obtain ⟨E,n⟩:∃E:World,w.alloc (.mapIter (some mb) S.items.length #[] S.items.length)=E:=⟨_,rfl⟩;rw [n] at k ⊢;clear n B H;go_loopw [] (fun w'=>∃seen:Array Nat,Hid (se w w' base pb mb q vr S w.heap.size seen)) (fun w'=>(Go.leftOf (cO q S.live) (w'.iterSeen w.heap.size)).size)
 case atStart=>exact ⟨#[],k⟩
 case round=>
  obtain ⟨seen,c⟩:=hrel
  have I:=run_next_at (P:=Tryz.prog) wr 0 w.heap.size mb S.items.length S.items.length seen (cO q S.live) S.items.length c.out.it c.out.bag.map (fun x F=>by
   rw [cT] at F;obtain ⟨i,s,rfl⟩:=List.mem_map.1 F
   exact bq s) (Nat.le_refl _)
  rcases I with ⟨_,a⟩ | ⟨e,A,G,u,a⟩
  ·go_wp2_with fail
   refine bodyPost_end (results_none rfl _ _ _) rfl ?_;exact ⟨rfl,c.out.bag,c.out.touch,c.out.below⟩
  ·obtain ⟨i,s,rfl⟩:=xQ A;have j:=Lib.hid (nT A)
   have D:se w G base pb mb q vr S w.heap.size seen:=by
    rcases u with rfl | rfl
    ·exact c.out
    ·exact c.out.drew
   have g:=D.step (Nat.le_refl _) t (seen.push (nM q i).born);obtain ⟨m,o⟩:∃m:World,setBlock G w.heap.size (.mapIter (some mb) S.items.length (seen.push (nM q i).born) S.items.length)=m:=⟨_,rfl⟩;rw [o] at a g;have p:=run_entry_at (P:=Tryz.prog) m w.heap.size mb S.items.length seen (cO q S.live) S.items.length (nM q i) g.it g.bag.map (by rw [cT];exact List.mem_map.2 ⟨i,s,rfl⟩) (tR (gJ S));have J:m.cell? ⟨pb,1,none⟩=some (.int .i64 S.time):=by rw [Lib.cell_of_heap g.bag.bag];rfl
   obtain ⟨_,v,x,b,_⟩:=g.bag.mail i s;have K:m.cell? ⟨q i,4,none⟩=some (.int .i64 x.1):=by rw [Lib.cell_of_heap b];rfl
   have L:=Lib.frozen_of_heap b 4;have l:=Lib.hid (g.put s S.time);have y:=Lib.hid c.out.it;have f:(nM q i).val= .pointer (some ⟨q i,0,none⟩):=rfl;have d:(nM q i).key= .int .i64 ((i:Int)+1):=rfl;rw [f,d] at a p;clear f d o D g b u A c;go_wp2_with fail
   exact ⟨⟨_,l⟩,by rw [ja l.out.it,ja y.out];exact j.out⟩
open Go.Lib (bytesWorld bytesWorld_size bytesWorld_at_old bytesWorld_cell)
def kl (w:World) (v:Value) (l:List UInt8):Prop:=∃g cap cur z,v= .slice (some ⟨g,0,none⟩) l.length cap∧w.heap[g]? =some (.cells cur 5 z)∧(∀j,j < l.length→w.cell? ⟨g,j,none⟩=some (.int .u8 (l.getD j 0).toNat))∧cap≤z.1∧l.length≤cap∧cap≤maxLen∧cur.size=cap∧cur.toList.take l.length=Lib.byteCells l
theorem kl.moves {w f:World} {v:Value} {l:List UInt8} (h:kl w v l) (m:∀(g:Nat) (a:Array Value) (z:Nat×Nat),w.heap[g]? =some (.cells a 5 z)→f.heap[g]? =some (.cells a 5 z)):kl f v l:=by
 obtain ⟨g,c,a,z,e,d,i,n⟩:=h;have b:=m g a z d;exact ⟨g,c,a,z,e,b,fun j k=>(World.cell?_of_block (w:=w) (b.trans d.symm)).trans (i j k),n⟩
theorem kl.keep {w a:World} {v:Value} {l:List UInt8} (h:kl w v l) (b:Below w.heap.size w a):kl a v l:=h.moves fun _ _ _ e=>ae b e
theorem bh.nil {w:World}:bh w.heap.size ((w.alloc (.map #[] 0)).alloc (.cells #[.slice none 0 0,.int .i64 0,.int .i64 0,.map (some w.heap.size)] 117)) (w.heap.size+1) w.heap.size (fun _=>0) (.slice none 0 0) ⟨[],0⟩:=by
 have b:((w.alloc (.map #[] 0)).alloc (.cells #[.slice none 0 0,.int .i64 0,.int .i64 0,.map (some w.heap.size)] 117)).heap[w.heap.size+1]? =some (.cells #[.slice none 0 0,.int .i64 0,.int .i64 0,.map (some w.heap.size)] 117 (0,0)):=by
  have:=heap_alloc_new (w.alloc (.map #[] 0)) (.cells #[.slice none 0 0,.int .i64 0,.int .i64 0,.map (some w.heap.size)] 117);simpa using this
 refine ⟨b,?_,by omega,Nat.le_refl _,fun i a=>?_,fun i a=>?_⟩
 ·exact ae ((Below.refl _ _).alloc (Nat.le_refl _) _) (heap_alloc_new w (.map #[] 0))
 ·have:=bq a;simp at this
 ·have:=bq a;simp at this
theorem mO {W:World} {e:TypeId} {x:ByteArray}:Below W.heap.size W (bytesWorld W e x):=
 ⟨by simp [bytesWorld,World.freeze,World.alloc,World.drew, -World.alloc_eq, -World.drew_eq],by simp [bytesWorld,World.freeze,World.alloc,World.drew, -World.alloc_eq, -World.drew_eq],by simp [bytesWorld,World.freeze,World.alloc,World.drew, -World.alloc_eq, -World.drew_eq],by rw [bytesWorld_size];omega,fun k a=>bytesWorld_at_old W e x k a⟩
theorem pt (W:World) (e:TypeId) (x:ByteArray):(Lib.bytesCells W e x).size=grownCap W x.size 0 e:=by
 have:=grownCap_ge W x.size 0 e;simp only [Lib.bytesCells,Array.size_append,Array.size_map,Array.size_replicate];have a:x.data.size=x.size:=rfl;omega
theorem sr (W:World) (e:TypeId) (l:List UInt8):(Lib.bytesCells W e (bs l)).toList.take l.length=Lib.byteCells l:=by
 have a:(bs l).data.toList=l:=aI l;simp only [Lib.bytesCells,Array.toList_append,Array.toList_map,a,Lib.byteCells];rw [List.take_append_of_le_length (by simp),List.take_of_length_le (by simp)]
theorem Bx {s b g k:Nat} {q:Nat→Nat} {p:Value} {S:aa} {w W:World} {l:List UInt8} (h:bh s W b g q p S) (m:Below s w W):
  let v:=Value.slice (some ⟨W.heap.size,0,none⟩) (bs (l.take k)).size (grownCap W (bs (l.take k)).size 0 5)
  let a:=(bytesWorld W 5 (bs (l.take k))).setCell ⟨b,0,none⟩ v
  (l.take k).length≤maxLen→bh s a b g q v S∧kl a v (l.take k)∧Below s w a:=by
 intro v a d;have f:=h.keep (mO (e:=5) (x:=bs (l.take k)));have c:aL b (bytesWorld W 5 (bs (l.take k))) a:=(aL.refl _ _).setCell _;have o:=h.pblt;refine ⟨f.timed (T:=S.time) c (heap_setCell_same _ b 0 _ _ v f.bag),⟨W.heap.size,_,_,_,by rw [←aG],aP c (Lib.bytesWorld_at_new W 5 _) (by omega),fun j n=>?_,?_,?_,?_,?_,?_⟩,?_⟩
 ·have i:a.cell? ⟨W.heap.size,j,none⟩=(bytesWorld W 5 (bs (l.take k))).cell? ⟨W.heap.size,j,none⟩:=World.cell?_of_block (c.2 W.heap.size (by omega));rw [i,bytesWorld_cell _ _ _ _ (by rw [aG];exact n),aI]
 ·show _≤(Lib.bytesCells W 5 (bs (l.take k))).size;rw [pt];exact Nat.le_refl _
 ·rw [←aG];exact grownCap_ge _ _ _ _
 ·exact grownCap_le_maxLen _ _ _ _ (by rw [aG];exact d)
 ·exact pt _ _ _
 ·exact sr _ _ _
 ·exact (m.trans (mO.mono h.le)).trans (c.below h.pbb)
theorem xA {l:List UInt8} {c:List UInt8×List UInt8} (h:ji l=some c):c.2=l.drop (8+c.1.length):=by
 rw [pI] at h
 split at h
 ·cases h
 ·rename_i b
  cases h
  have a:((l.drop 8).take (be (l.take 4))).length=be (l.take 4):=by rw [List.length_take,List.length_drop];omega
  simp only;rw [a,List.drop_drop]
theorem Ab (l:List UInt8) (n:Int) (w:World) (hl:l.length≤536870912) (hm:w.cell? ⟨0,0,none⟩=some (.int .i64 n)):
  Calls Tryz.prog 44 #[.string (bs l)] w fun e E=>∃pb mb q vr,e= .returned (.pointer (some ⟨pb,0,none⟩))∧bh w.heap.size E pb mb q vr (bw l).1∧(bw l).1.Ok∧kl E vr (l.take (bw l).2)∧(∀g,vr.ownBlock=some g→w.heap.size≤g)∧Below w.heap.size w E:=by
 obtain ⟨X,j⟩:∃X:World,(w.alloc (.map #[] 0)).alloc (.cells #[.slice none 0 0,.int .i64 0,.int .i64 0,.map (some w.heap.size)] 117)=X:=⟨_,rfl⟩;have I:Hid (bh w.heap.size X (w.heap.size+1) w.heap.size (fun _=>0) (.slice none 0 0) ⟨[],0⟩):=Lib.hid (by rw [←j];exact bh.nil);have H:Hid (Below w.heap.size w X):=Lib.hid (by rw [←j];exact ((Below.refl _ _).alloc (Nat.le_refl _) _).alloc (by simp) _);have sl:=aG l;have a6:=Lib.hid j;have HM:=Lib.hid hm;have b2:=@run_makeMap Tryz.prog;have b1:∀(W:World) (x:ByteArray),(convert 9 114 (.string x)).run Tryz.prog W= .ok (.slice (some ⟨W.heap.size,0,none⟩) x.size (grownCap W x.size 0 5)) (bytesWorld W 5 x):=fun W x=>Lib.run_convert_string_bytes W _ _ _ x Tryz.underlying9 Tryz.underlying114 Tryz.underlying5;clear j hm;go_enter Tryz.func44,Tryz.ntmps44;go_wp2_with fail
 rw [a6.out];go_loopw [4] (fun v E=>∃(k f:Nat) (S:aa) (q:Nat→Nat),v= .int .i64 k∧k≤l.length∧8 * S.items.length≤k∧Hid (l.length+1≤k+f)∧Hid (S.time≤1000000000)∧Hid S.Ok∧Hid (bh w.heap.size E (w.heap.size+1) w.heap.size q (.slice none 0 0) S)∧Hid (Below w.heap.size w E)∧Hid (bw l=dz f S k (l.drop k))) (fun v _=>l.length - (intOf v).toNat)
 case atStart=>exact ⟨0,l.length+1,⟨[],0⟩,_,rfl,Nat.zero_le _,by simp,Lib.hid (by omega),Lib.hid (by simp),Lib.hid (aa.Ok.nil 0),I,H,Lib.hid rfl⟩
 case round=>
  clear I H;obtain ⟨k,f,S,q,rfl,hk,hS,HF,HT,HO,HS,HB,V⟩:=hrel;obtain ⟨f,rfl⟩:∃g,f=g+1:=⟨f - 1,by have:=HF.out;omega⟩
  obtain ⟨R,M⟩:∃R,l.drop k=R:=⟨_,rfl⟩;have b0:R.length=l.length - k:=by rw [←M,List.length_drop]
  rw [M] at V;have a0:=Lib.hid M;have a1:Hid ((bs l).extract k l.length=bs R):=Lib.hid (by rw [fW,List.take_length,M]);clear M;go_wp2_with fail
  rw [a1.out];refine (Dy R wr (by unfold maxLen;omega)).mono ?_;rintro e Q ⟨rfl,P⟩;have A:Below wr.heap.size wr Q:=P.toBelow (Nat.le_refl _);have T:=Lib.hid (HS.out.keep A);have U:=Lib.hid (HB.out.trans (A.mono HS.out.le));clear P A
  have d:Hid (∀(W:World) (Z:Nat→Nat),bh w.heap.size W (w.heap.size+1) w.heap.size Z (.slice none 0 0) S→∀x:ByteArray,(bytesWorld W 5 x).cell? ⟨w.heap.size+1,0,none⟩=some (.slice none 0 0)∧(bytesWorld W 5 x).frozen? ⟨w.heap.size+1,0,none⟩=false):=Lib.hid (fun W Z i x=>by
   have:=(i.keep (mO (e:=5) (x:=x))).bag
   exact ⟨by rw [Lib.cell_of_heap this];rfl,Lib.frozen_of_heap this 0⟩)
  have J:Hid ((bs l).extract 0 k=bs (l.take k)):=Lib.hid (by rw [fW,List.drop_zero]);have sk:(bs (l.take k)).size=k:=by rw [aG,List.length_take];omega
  cases B:ji R with
  | none=>
   have a:=Lib.hid (V.out.trans (gP B));have g0:=fun x=>(d.out Q q T.out x).1;have g1:=fun x=>(d.out Q q T.out x).2;clear B;simp only [mI];go_wp2_with fail
   rw [J.out];obtain ⟨t,u,y⟩:=Bx (l:=l) (k:=k) T.out U.out (by rw [List.length_take];unfold maxLen;omega);have p:=U.out;rw [sk] at t u y;refine (np _ _ _ _ _ _ _ t).mono ?_;rintro e w9 ⟨rfl,F,L,G⟩;have o:=Lib.hid F;have r:=Lib.hid (u.moves fun g a7 z e=>L.cells e (by decide));have s:=Lib.hid (y.trans G);clear F L G t u y;go_wp2_with fail
   go_ret;exact ⟨w.heap.size+1,w.heap.size,q,_,rfl,by rw [a.out];exact o.out,by rw [a.out];exact HO.out,by rw [a.out];exact r.out,fun g e=>(by injection e with e;simp only at e;rw [←e];exact p.size),s.out⟩
  | some c=>
   have a8:=ku B;obtain ⟨b,c2⟩:=c;simp only at a8;have O:Q.cell? ⟨0,0,none⟩=some (.int .i64 n):=(U.out.cell (by exact aC HM.out)).trans HM.out;have a5:=Lib.hid (Ac w.heap.size (w.heap.size+1) w.heap.size q (.slice none 0 0) S b n Q T.out HO.out (by omega) O (by omega));have a2:Hid (S.takes b=none→bw l=(S,k)):=Lib.hid (fun Y=>V.out.trans (jf B Y))
   have K:Hid (∀h,S.takes b=some h→bw l=dz f h (k+8+b.length) (l.drop (k+8+b.length))∧8 * h.items.length≤k+8+b.length∧h.time≤1000000000):=Lib.hid (fun h Y=>by
    have hz:=rY Y HT.out;refine ⟨?_,by omega,hz.2⟩
    rw [V.out,fP B Y]
    rw [show l.drop (k+8+b.length)=c2 by
     have e9:=xA B;simp only at e9;rw [e9,←a0.out,List.drop_drop]
     congr 1;omega])
   have s1:=aG b;have s2:=aG c2;clear B O;simp only [mI];go_wp2_with fail
   refine a5.out.mono ?_;intro e w2 C;obtain ⟨hT,m⟩:=C;unfold mL at hT;obtain ⟨a9,N⟩:=hT;have B2:=Lib.hid (U.out.trans N);have a4:=Lib.hid m;clear N m
   rcases a9 with ⟨D,rfl,i⟩ | ⟨h,Z,D,rfl,i⟩
   ·have a:=Lib.hid (a2.out D);have g0:=fun x=>(d.out w2 q i x).1;have g1:=fun x=>(d.out w2 q i x).2;have A2:=Lib.hid i;clear D i;go_wp2_with fail
    rw [J.out];obtain ⟨t,u,y⟩:=Bx (l:=l) (k:=k) A2.out B2.out (by rw [List.length_take];unfold maxLen;omega);have p:=B2.out;rw [sk] at t u y;refine (np _ _ _ _ _ _ _ t).mono ?_;rintro e w9 ⟨rfl,F,L,G⟩;have o:=Lib.hid F;have r:=Lib.hid (u.moves fun g a7 z e=>L.cells e (by decide));have s:=Lib.hid (y.trans G);clear F L G t u y;go_wp2_with fail
    go_ret;exact ⟨w.heap.size+1,w.heap.size,q,_,rfl,by rw [a.out];exact o.out,by rw [a.out];exact HO.out,by rw [a.out];exact r.out,fun g e=>(by injection e with e;simp only at e;rw [←e];exact p.size),s.out⟩
   ·have a:=Lib.hid (K.out h D);have a3:=Lib.hid (a4.out h D);have A2:=Lib.hid i;have b3:IntKind.i64.wrap ((l.length:Int) - (c2.length:Int))=((k+8+b.length:Nat):Int):=by rw [IntKind.wrap_i64];omega
    clear D i;go_wp2_with fail
    exact ⟨⟨k+8+b.length,f,h,Z,rfl,by omega,a.out.2.1,Lib.hid (by have:=HF.out;omega),Lib.hid a.out.2.2,a3,A2,B2,Lib.hid a.out.1⟩,by simp only [intOf];omega⟩
def Ce (base:Nat) (w:World) (pp:Nat) (l:List UInt8):Prop:=
 ∃pb mb q vr,(∃C:Array Value,w.heap[pp]? =some (.cells C 88 (0,0))∧C[9]? =some (.pointer (some ⟨pb,0,none⟩)))∧bh base w pb mb q vr (bw l).1∧(bw l).1.Ok∧kl w vr (l.take (bw l).2)∧base≤pp∧∀g,vr.ownBlock=some g→base≤g
theorem Ce.keep {a c:Nat} {w d:World} {l:List UInt8} (h:Ce a w c l) (b:Below w.heap.size w d):Ce a d c l:=by
 obtain ⟨n,m,q,o,⟨C,e,k⟩,f,g,i,j⟩:=h;exact ⟨n,m,q,o,⟨C,ae b e,k⟩,f.keep b,g,i.keep b,j⟩
theorem aH.but {p:Nat} {w a:World} (h:sc p w a):aH (fun k=>k=p) w a:=⟨h.size,fun k b c=>h.block k b c,h.still⟩
theorem mM (l L f:Nat) (q:Nat→Nat) (vr Q:Value) (S:aa) (K:Nat) (n:List Nat) (w:World) (h:bh l w L f q vr S) (a6:S.Ok) (hp:bg w Q n.length 1 (aZ n)) (N:K∈S.live) (a7:n.length≤255) (hn:S.items.length≤4294967295):
  Calls Tryz.prog 169 #[.pointer (some ⟨L,0,none⟩),.agg #[.int .i64 ((K:Int)+1),Q]] w fun e w'=>∃vn,e= .returned vn∧w'.ownsRow w.heap.size 9 1 vn (dx (S.stayOf K) n).length (aB (dx (S.stayOf K) n))∧bh l w' L f q vr (S.outs K n)∧aH (fun k=>k=f∨k=q K) w w'∧(∀C,w.heap[q K]? =some (.cells C 158 (0,0))→∃m,w'.heap[q K]? =some (.cells m 158 (0,0))∧m[4]? =C[4]? ∧m[5]? =C[5]? ∧∀k,(m.getD 2 undef).ownBlock=some k→w.heap.size≤k):=by
 have b3:=h.le;obtain ⟨j,D⟩:∃j:World,w.alloc (.cells #[.int .i64 ((K:Int)+1),Q] 193)=j:=⟨_,rfl⟩;have B0:Below w.heap.size w j:=by rw [←D];exact (Below.refl _ _).alloc (Nat.le_refl _) _
 have R:bh l j L f q vr S:=h.keep B0;have W:j.heap[w.heap.size]? =some (.cells #[.int .i64 ((K:Int)+1),Q] 193 (0,0)):=by rw [←D];exact heap_alloc_new w _
 have c3:j.drew.cell? ⟨L,3,none⟩=some (.map (some f)):=by show j.cell? _=_;rw [Lib.cell_of_heap R.bag];rfl
 have e0:j.drew.cell? ⟨w.heap.size,0,none⟩=some (.int .i64 ((K:Int)+1)):=by show j.cell? _=_;rw [Lib.cell_of_heap W];rfl
 have e1:j.drew.cell? ⟨w.heap.size,1,none⟩=some Q:=by show j.cell? _=_;rw [Lib.cell_of_heap W];rfl
 have u:∀i∈S.live,i < 4294967296:=fun i hi=>by have:=bq hi;omega
 have hM:gh j.drew f q S.live S.items.length:=R.map;have b2:=bq N
 have b4:(Instr.lookup 115 (.map (some f)) (.int .i64 ((K:Int)+1)) false).run Tryz.prog j.drew= .ok (.pointer (some ⟨q K,0,none⟩)) j.drew:=
  ig (t:=115) (e:=122) fU Tryz.underlying115 hM u K (by omega) N false
 obtain ⟨a8,v,x,O,hr⟩:=R.mail K N;have a0:=Lib.hid (oA l (q K) _ _ _ v Q (S.stayOf K) n x j.drew O a8 hr (hp.below B0.drew) (by have:=dk a6 K;omega) a7);have B:=Lib.hid R;have o:=Lib.hid B0;have a2:=Lib.hid D;have a3:=Lib.hid W;have U:=Lib.hid O;have HL:=Lib.hid u;have a5:q K≠w.heap.size:=fun e=>by unfold dL at O;rw [e,W] at O;simp at O
 clear O hr R W B0 hM u hp h D;go_enter Tryz.func169,Tryz.ntmps169;go_wp2_with fail
 rw [a2.out];go_region
 all_goals
  go_wp2_with fail
  refine a0.out.mono ?_;rintro e d ⟨vn,vs,rfl,E,p,z,r⟩
  obtain ⟨gs,cs,es⟩:∃a c,vs= .slice a (bM (S.stayOf K) n).length c:=by
   rcases z.2 with ⟨e,h0⟩ | ⟨g,a4,X,e,_⟩
   ·exact ⟨_,_,by rw [h0];exact e⟩
   ·exact ⟨_,_,e⟩
  subst es;have b:sc (q K) j d:=Aj r;have f2:d.cell? ⟨q K,2,none⟩=some (.slice gs (bM (S.stayOf K) n).length cs):=by rw [Lib.cell_of_heap p];rfl
  have G:Hid (aH (fun k=>k=f∨k=q K) w d):=Lib.hid ((aH.below o.out).trans (aH.but b) (fun _ _ e=> .inr e))
  have H:Hid (∀C,w.heap[q K]? =some (.cells C 158 (0,0))→∃m,d.heap[q K]? =some (.cells m 158 (0,0))∧m[4]? =C[4]? ∧m[5]? =C[5]? ∧∀k,(m.getD 2 undef).ownBlock=some k→w.heap.size≤k):=Lib.hid (by
   intro C hC;have M:j.heap[q K]? =_:=U.out;rw [ae o.out hC] at M;injection M with M;injection M with M;subst M;refine ⟨_,p,rfl,rfl,fun k e=>?_⟩;have Y:=o.out.size
   rcases z.2 with ⟨e1,_⟩ | ⟨g,a4,X,e1,hg,_⟩
   ·have e:(Value.slice gs (bM (S.stayOf K) n).length cs).ownBlock=some k:=e;rw [e1] at e;simp [Value.ownBlock] at e
   ·have e:(Value.slice gs (bM (S.stayOf K) n).length cs).ownBlock=some k:=e;rw [e1] at e;have e:g=k:=by simpa [Value.ownBlock] using e
    have hg:j.heap.size≤g:=hg
    omega)
  by_cases Y:bM (S.stayOf K) n=[]
  ·obtain ⟨Z,A⟩:=B.out.emptied N b Y;have y:(bM (S.stayOf K) n).length=0:=by rw [Y];rfl
   have s:∀P:TypeId,(Builtin.delete_ #[115,3] P #[.map (some f),.int .i64 ((K:Int)+1)]).run Tryz.prog d.drew= .ok (.tuple #[]) (ChangeMaps.setBlock d.drew f (.map (cO q (S.live.filter fun i=>decide (i≠K))) S.items.length)):=fun P=>
    Bg (t:=115) (e:=122) fU Tryz.underlying115 (w:=d.drew) (c:=S.items.length) Z HL.out (gJ S) K (by omega) N
   have A3:Hid (bh l (ChangeMaps.setBlock d.drew f (.map (cO q (S.live.filter fun i=>decide (i≠K))) S.items.length)) L f q vr (S.outs K n)):=Lib.hid ⟨A.bag,A.map,A.pbb,A.mbb,A.one,A.mail⟩;have S3:=gd (w:=d.drew) Z (.map (cO q (S.live.filter fun i=>decide (i≠K))) S.items.length);have F:=Lib.hid (aA (w:=d.drew) E.drew fun g X e _=>aP S3 e fun e'=>by rw [e'] at e;rw [show d.drew.heap[f]? =_ from Z] at e;simp at e);have T:Hid (aH (fun k=>k=f∨k=q K) w (ChangeMaps.setBlock d.drew f (.map (cO q (S.live.filter fun i=>decide (i≠K))) S.items.length))):=Lib.hid (G.out.trans ((aH.below ((Below.refl d.heap.size d).drew):aH (fun k=>k=f) d d.drew).trans (aH.same S3) (fun _ _ e=>e)) (fun _ _ e=> .inl e))
   have V:Hid (∀C,w.heap[q K]? =some (.cells C 158 (0,0))→∃m,(ChangeMaps.setBlock d.drew f (.map (cO q (S.live.filter fun i=>decide (i≠K))) S.items.length)).heap[q K]? =some (.cells m 158 (0,0))∧m[4]? =C[4]? ∧m[5]? =C[5]? ∧∀k,(m.getD 2 undef).ownBlock=some k→w.heap.size≤k):=Lib.hid (by
    intro C hC;obtain ⟨m,I,h4,h5,h6⟩:=H.out C hC
    exact ⟨m,aP S3 I (fun e=>by rw [e,show d.heap[f]? =_ from Z] at I;simp at I),h4,h5,h6⟩)
   obtain ⟨w3,J⟩:∃w3,ChangeMaps.setBlock d.drew f (.map (cO q (S.live.filter fun i=>decide (i≠K))) S.items.length)=w3:=⟨_,rfl⟩;rw [J] at A3 F T V;have a9:∀P:TypeId,(Builtin.delete_ #[115,3] P #[.map (some f),.int .i64 ((K:Int)+1)]).run Tryz.prog d.drew= .ok (.tuple #[]) w3:=fun P=>by rw [s P,J]
   have b0:d.drew.cell? ⟨L,3,none⟩=some (.map (some f)):=by
    show d.cell? _=_;rw [Lib.cell_of_heap (gN b B.out.bag (fun e=>by have:=U.out;unfold dL at this;rw [←e,B.out.bag] at this;simp at this))];rfl
   have b1:d.drew.cell? ⟨w.heap.size,0,none⟩=some (.int .i64 ((K:Int)+1)):=by
    show d.cell? _=_;rw [Lib.cell_of_heap (gN b a3.out (fun e=>a5 e.symm))];rfl
   rw [y] at f2;clear r b p z E A Z S3 G y J s H;go_wp2_with fail
   go_region
   all_goals
    go_wp2_with fail
    go_ret;exact ⟨vn,rfl,F.out.mono (by have:=o.out.size;exact this),A3.out,T.out,V.out⟩
  ·have A:=Lib.hid (B.out.left N b p z Y)
   have y:(((bM (S.stayOf K) n).length:Int) == 0)=false:=by
    rw [beq_eq_false_iff_ne];intro e;exact Y (List.eq_nil_of_length_eq_zero (by omega))
   have a1:=Lib.hid E;clear r b p z E;go_wp2_with fail
   go_ret;exact ⟨vn,rfl,a1.out.mono (by have:=o.out.size;exact this),A.out,G.out,H.out⟩
theorem gS {S:aa} {K:Nat} {c:List Nat} {i:Nat} (a:K∈S.live) (h:i∈(S.outs K c).live):i∈S.live:=by
 by_cases b:bM (S.stayOf K) c=[]
 ·rw [jy a b] at h;exact (List.mem_filter.1 h).1
 ·rw [jz a b] at h;exact h
theorem uC {l A o K:Nat} {q:Nat→Nat} {F:Value} {S:aa} {ps:List Nat} {w m:World} (h:bh l w A o q F S) (n:K∈S.live) (u:aH (fun k=>k=o∨k=q K) w m) (y:∀C,w.heap[q K]? =some (.cells C 158 (0,0))→∃f,m.heap[q K]? =some (.cells f 158 (0,0))∧f[4]? =C[4]? ∧f[5]? =C[5]? ∧∀k,(f.getD 2 undef).ownBlock=some k→w.heap.size≤k):eZ A o q q S (S.outs K ps) w m∧lq w m q (S.outs K ps).live:=by
 have d:∀i∈S.live,i≠K→m.heap[q i]? =w.heap[q i]? :=fun i j r=>by
  obtain ⟨_,v,x,g,_⟩:=h.mail i j;refine u.block (q i) (ah g) (fun e=>?_)
  rcases e with e | e
  ·unfold dL at g;rw [e,show w.heap[o]? =_ from h.map] at g;simp at g
  ·exact r (h.one i j K n e)
 refine ⟨⟨u.mono (fun k _ e=> .inr (e.imp id (fun e=>⟨K,n,.inl e⟩))),fun k b=>?_⟩,fun i j C t=>?_⟩
 ·rcases b with b | b | ⟨i,j,b⟩
  ·exact .inl (.inl b)
  ·exact .inl (.inr (.inl b))
  ·have a:=gS n j
   rcases b with b | ⟨C,z,c,s⟩
   ·exact .inl (.inr (.inr ⟨i,a,.inl b⟩))
   ·by_cases e:i=K
    ·subst e;obtain ⟨_,v,x,g,_⟩:=h.mail i a;obtain ⟨f,p,_,_,E⟩:=y _ g;rw [p] at c;injection c with c;injection c with c;subst c;exact .inr (E k s)
    ·rw [d i a e] at c;exact .inl (.inr (.inr ⟨i,a,.inr ⟨C,z,c,s⟩⟩))
 ·have a:=gS n j
  by_cases e:i=K
  ·subst e;obtain ⟨f,p,B,D,_⟩:=y C t;exact ⟨f,p,B,D⟩
  ·exact ⟨C,(d i a e).trans t,rfl,rfl⟩
theorem vO (a g k:Nat) (q:Nat→Nat) (u i:Value) (S:aa) (b:Nat) (c:List Nat) (w:World) (h:bh a w g k q u S) (s:S.Ok) (G:bg w i c.length 1 (aZ c)) (E:b≤4294967295) (T:1≤c.length) (t:c.length≤255) (U:S.items.length≤4294967295) (F:bt S b c=true):
  Calls Tryz.prog 117 #[.pointer (some ⟨g,0,none⟩),.agg #[.int .i64 b,i]] w fun e H=>e= .returned (.bool true)∧bh a H g k q u (S.outs (b - 1) c)∧eZ g k q q S (S.outs (b - 1) c) w H∧lq w H q (S.outs (b - 1) c).live:=by
 obtain ⟨j,f⟩:∃j:World,w.alloc (.cells #[.int .i64 b,i] 193)=j:=⟨_,rfl⟩;have l:Below w.heap.size w j:=by rw [←f];exact (Below.refl _ _).alloc (Nat.le_refl _) _
 have v:bh a j g k q u S:=h.keep l;have Q:j.heap[w.heap.size]? =some (.cells #[.int .i64 b,i] 193 (0,0)):=by rw [←f];exact heap_alloc_new w _
 have O:=Lib.hid (j8 a g k q u i S b c j v s (G.below l) E T t U);rw [F] at O;have V:=Lib.hid h;have x:=Lib.hid v;have m:=Lib.hid l;have B:=Lib.hid f;have C:=Lib.hid Q;have A:=Lib.hid (G.below l);rw [db T,Bool.and_eq_true,decide_eq_true_eq] at F;obtain ⟨⟨D,p⟩,_⟩:=F;have n:=Lib.hid p;have r:((b - 1:Nat):Int)+1=(b:Int):=by omega
 have z:=Lib.hid r;clear v l f Q G h D p r;go_enter Tryz.func117,Tryz.ntmps117;go_wp2_with fail
 rw [B.out];refine O.out.mono ?_;rintro e I ⟨rfl,d⟩;have J:=ae d C.out;have Y:I.cell? ⟨w.heap.size,0,none⟩=some (.int .i64 b):=by rw [Lib.cell_of_heap J];rfl
 have Z:I.cell? ⟨w.heap.size,1,none⟩=some i:=by rw [Lib.cell_of_heap J];rfl
 have K:=Lib.hid (x.out.keep d);have M:=Lib.hid (m.out.trans (d.mono m.out.size));have N:=Lib.hid (mM a g k q u i S (b - 1) c I K.out s (A.out.below d) n.out t U);rw [z.out] at N;clear J d;go_wp2_with fail
 refine N.out.mono ?_;rintro e X ⟨W,rfl,_,L,P,R⟩;have o:=Lib.hid (uC K.out n.out P R (ps:=c));have y:=Lib.hid L;clear L P R;go_wp2_with fail
 go_ret;exact ⟨rfl,y.out,eZ.after V.out M.out o.out.1,lq.after M.out o.out.2⟩
theorem rj (a b p:Nat) (q:Nat→Nat) (M s:Value) (S S':aa) (T r:Nat) (d:List Nat) (w:World) (h:bh a w b p q M S) (I:S.Ok) (B:Nat) (hp:w.ownsRow B 3 1 s d.length (aZ d)) (c7:r≤4294967295) (h1:1≤d.length) (a6:d.length≤255) (hr:bF d=true) (hT:T≤1000000000) (hn:S.items.length < 4294967295) (hm:bt S r d=true) (a5:S.time≤T) (hS:S.takesF T r d=some S'):
  Calls Tryz.prog 119 #[.pointer (some ⟨b,0,none⟩),.int .i64 T,.agg #[.int .i64 r,s]] w fun e w'=>e= .returned (.bool true)∧∃q',bh a w' b p q' M S'∧eZ b p q q' S S' w w'∧∀D,jk w q S.live D→jk w' q' S'.live (sH S.items.length T D):=by
 obtain ⟨V,G⟩:∃V:World,w.alloc (.cells #[.int .i64 r,s] 193)=V:=⟨_,rfl⟩;have B0:Below w.heap.size w V:=by rw [←G];exact (Below.refl _ _).alloc (Nat.le_refl _) _
 have A0:bh a V b p q M S:=h.keep B0;have X0:V.heap[w.heap.size]? =some (.cells #[.int .i64 r,s] 193 (0,0)):=by rw [←G];exact heap_alloc_new w _
 have O0:=aA hp fun g P e _=>ae B0 e;have HM:=Lib.hid (j8 a b p q M s S r d V A0 I (aF O0) c7 h1 a6 (by omega));rw [hm] at HM;have HH:=Lib.hid h;have a2:=Lib.hid hS;have A:=Lib.hid (kf hr hm a5);have a0:=Lib.hid (jS hr hm);rw [db h1,Bool.and_eq_true,decide_eq_true_eq] at hm;obtain ⟨⟨c6,f⟩,_⟩:=hm;have a8:=Lib.hid A0;have Y:=Lib.hid B0;have b7:=Lib.hid G;have c0:=Lib.hid X0;have b3:=Lib.hid O0;have c8:b < w.heap.size:=h.pblt;clear A0 B0 G X0 hp h O0 hS;go_enter Tryz.func119,Tryz.ntmps119;go_wp2_with fail
 rw [b7.out];refine HM.out.mono ?_;rintro e R ⟨rfl,k⟩;have x0:=ae k c0.out;have y0:R.cell? ⟨w.heap.size,0,none⟩=some (.int .i64 r):=by rw [Lib.cell_of_heap x0];rfl
 have y1:R.cell? ⟨w.heap.size,1,none⟩=some s:=by rw [Lib.cell_of_heap x0];rfl
 have c2:=Lib.hid x0;have A2:=a8.out.keep k;have c1:R.cell? ⟨b,1,none⟩=some (.int .i64 S.time):=by rw [Lib.cell_of_heap A2.bag];rfl
 have g1:R.frozen? ⟨b,1,none⟩=false:=Lib.frozen_of_heap A2.bag 1;have u:=Lib.hid A2;have O2:=Lib.hid (aA b3.out fun g P e _=>ae k e);have B2:=Lib.hid (Y.out.trans (k.mono Y.out.size));clear x0 k A2;obtain ⟨K,rfl⟩:∃K,r=K+1:=⟨r - 1,by omega⟩
 rw [Nat.add_sub_cancel] at A a0 f;have d2:¬T < S.time:=by omega
 clear a5;go_wp2_with fail
 obtain ⟨j,J⟩:∃j:World,R.setCell ⟨b,1,none⟩ (.int .i64 T)=j:=⟨_,rfl⟩;rw [J];have S3:aL b R j:=by rw [←J];exact (aL.refl _ _).setCell _
 have P3:j.heap[b]? =some (.cells #[M,.int .i64 T,.int .i64 S.items.length,.map (some p)] 117 (0,0)):=by
  rw [←J];exact heap_setCell_same R b 1 _ _ (.int .i64 T) u.out.bag
 have U:bh a j.drew b p q M ⟨S.items,T⟩:=(u.out.timed S3 P3).keep ((Below.refl _ _).drew);have X3:j.drew.heap[w.heap.size]? =some (.cells #[.int .i64 ((K:Int)+1),s] 193 (0,0)):=aP S3 c2.out (by omega);have O3:j.drew.ownsRow B 3 1 s d.length (aZ d):=aA O2.out fun g P e _=>aP S3 e fun e'=>by rw [e',u.out.bag] at e;simp at e
 have c3:j.drew.cell? ⟨b,3,none⟩=some (.map (some p)):=by rw [Lib.cell_of_heap U.bag];rfl
 have z0:j.drew.cell? ⟨w.heap.size,0,none⟩=some (.int .i64 ((K:Int)+1)):=by rw [Lib.cell_of_heap X3];rfl
 have z1:j.drew.cell? ⟨w.heap.size,1,none⟩=some s:=by rw [Lib.cell_of_heap X3];rfl
 have a3:=bq f
 have d1:(Instr.lookup 115 (.map (some p)) (.int .i64 ((K:Int)+1)) false).run Tryz.prog j.drew= .ok (.pointer (some ⟨q K,0,none⟩)) j.drew:=
  ig (t:=115) (e:=122) fU Tryz.underlying115 U.map (fun i n=>by have:=bq n;simp only at this;omega) K (by omega) f false
 obtain ⟨_,v,_,hb,_⟩:=U.mail K f;have m1:j.drew.cell? ⟨q K,1,none⟩=some (.string (bs (S.mailOf K).frm)):=by rw [Lib.cell_of_heap hb];rfl
 have b2:=Lib.hid (mM a b p q M s ⟨S.items,T⟩ K d j.drew U (I.time T) (aF O3) f a6 (by show S.items.length≤_;omega));have C:=Lib.hid (ym (T:=T) u.out (S3.drew));have a9:=Lib.hid U;have z:=Lib.hid f;have a1:Hid (dQ (S.mailOf K)):=Lib.hid (by rw [cd a3];exact (I.sz _ (List.getElem_mem a3)).1);have b5:=Lib.hid (dk I K);clear J S3 P3 U X3 O3 hb y0 y1 c1 g1 c6 f;obtain ⟨F,eF⟩:∃F,(S.mailOf K).frm=F:=⟨_,rfl⟩;rw [eF] at m1 A;go_region
 all_goals
  go_wp2_with fail
  refine b2.out.mono ?_;rintro e c ⟨vn,rfl,a7,A4,K4,X4⟩
  have c4:c.drew.cell? ⟨b,2,none⟩=some (.int .i64 (S.items.length:Int)):=by
   show c.cell? _=_;rw [Lib.cell_of_heap A4.bag,bL];rfl
  have c5:∀o:Obj,(c.alloc o).cell? ⟨b,2,none⟩=some (.int .i64 (S.items.length:Int)):=fun o=>by
   have:=ae ((Below.refl _ c).alloc (Nat.le_refl _) o) A4.bag;rw [Lib.cell_of_heap this,bL];rfl
  have b6:=Lib.hid a7;have y:=Lib.hid A4;have E:=Lib.hid (uC a9.out z.out K4 X4 (ps:=d));clear a7 A4 K4 X4
  by_cases Q:F=[]
  ·have tF:(bs F).toList.isEmpty=true:=by rw [Lib.toList_data,Q];rfl
   have HR:=Lib.hid (A.out.1 Q);clear Q;go_wp2_with fail
   go_ret;have ES:=Option.some.inj (a2.out.symm.trans HR.out);subst ES;exact ⟨rfl,q,y.out,eZ.after HH.out B2.out (C.out.1.trans E.out.1),fun D hd=>(E.out.2.due (fun i n=>gS z.out n) (C.out.2.due (fun _ n=>n) (hd.below B2.out))).new (fun i n=>bq (gS z.out n))⟩
  ·have tF:(bs F).toList.isEmpty=false:=by
    rw [Lib.toList_data]
    cases F with
    | nil=>exact absurd rfl Q
    | cons x l=>rfl
   have HR:=Lib.hid (A.out.2 Q);have d3:IntKind.i64.wrap ((S.items.length:Int)+1)=(S.items.length:Int)+1:=by rw [IntKind.wrap_i64];omega
   obtain ⟨N,eN⟩:∃N,dx (S.stayOf K) d=N:=⟨_,rfl⟩;have c9:N.length≤10:=by rw [←eN];have:=mV (S.stayOf K) d;have:=b5.out;omega
   have a4:∀t∈N,t.length≤255:=by
    intro t ht;rw [←eN,a0.out,List.mem_map] at ht;obtain ⟨i,_,rfl⟩:=ht;exact nQ a1.out.2.2.2.2.1 i
   have d0:=lX N a4;have L:c.ownsRow j.drew.heap.size 9 1 vn N.length (aB N):=by rw [←eN];exact b6.out
   have b4:Hid (∀W:World,Below c.heap.size c W→Calls Tryz.prog 170 #[vn] W fun e w'=>e= .returned (.string (bs (fY N)))∧W=w'):=Lib.hid (fun W hW=>nB N vn W (aF (aA L fun g P e _=>ae hW e)) (by omega) a4);obtain ⟨X,H⟩:∃X:World,(c.alloc (.cells #[.string (bs F)] 9)).drew=X:=⟨_,rfl⟩;have B5:Below c.heap.size c X:=by rw [←H];exact ((Below.refl _ _).alloc (Nat.le_refl _) _).drew
   have X5:X.heap[c.heap.size]? =some (.cells #[.string (bs F)] 9 (0,0)):=by rw [←H];exact heap_alloc_new c _
   have O5:X.ownsRow c.heap.size 9 1 (.slice (some ⟨c.heap.size,0,none⟩) 1 1) 1 (aB [F]):=
    ⟨rfl,.inr ⟨c.heap.size,1,_,rfl,Nat.le_refl _,X5,Nat.le_refl _,by unfold maxLen;omega,rfl,rfl⟩⟩
   have b1:=Lib.hid (rA a b p q M (aa.outs ⟨S.items,T⟩ K d) ⟨S.items.length+1,T,[],[F],fY N⟩ (.slice (some ⟨c.heap.size,0,none⟩) 1 1) X (y.out.keep B5) c.heap.size O5
    ⟨by show S.items.length+1≤_;omega,by show T≤_;omega,by simp,by simp,fun t ht=>by simp at ht;subst ht;rw [←eF];exact a1.out.2.2.1,by show (fY N).length≤_;omega⟩ (by rw [bL]) (by simp) (by rw [bL];exact hn))
   have O:=Lib.hid B5;have b8:=Lib.hid H;have HF:=Lib.hid Q;rw [eN] at HR;clear Q eF B5 X5 O5 L H eN;go_wp2_with fail
   go_region_law (first
    | (go_simp;go_at_call 170;refine (b4.out _ (by first | exact (Below.refl _ _).drew | exact ((Below.refl _ _).alloc (Nat.le_refl _) _).drew | exact ((Below.refl _ _).drew).alloc (Nat.le_refl _) _)).mono ?_;rintro e w5 ⟨rfl,rfl⟩)
    | (go_simp;go_at_call 166;rw [b8.out];refine b1.out.mono ?_;rintro e w6 ⟨rfl,q',A6,K6,O6,Q6,N6⟩;have b0:=Lib.hid A6;have Z:=Lib.hid (zU (m:=⟨S.items.length+1,T,[],[F],fY N⟩) (y.out.keep O.out) (Nat.le_refl 1) K6 O6 Q6 N6);clear A6 K6 O6 Q6 N6))
   all_goals
    go_wp2_with fail
    go_ret;have ES:=Option.some.inj (a2.out.symm.trans HR.out);subst ES;refine ⟨rfl,_,b0.out,(eZ.after HH.out B2.out (C.out.1.trans E.out.1)).trans (eZ.after y.out O.out Z.out.1),fun D hd=>?_⟩;have d4:=E.out.2.due (fun i n=>gS z.out n) (C.out.2.due (fun _ n=>n) (hd.below B2.out));have d6:=Z.out.2 D (d4.below O.out);rw [bL] at d6;exact d6
theorem j7 {c:Nat} {a:List Nat} (e:c≤4294967295) (d:1≤a.length) (h:a.length≤100) (b:∀x∈a,x≤255) (f:bF a=true):dq (aM c a)=some (c,a):=by
 unfold dq;rw [xS (by omega) (by omega) (fun x g=>by have:=b x g;omega)];simp [d,f]
theorem tJ (b z C:Nat) (q:Nat→Nat) (E:Value) (S:aa) (c T:Nat) (a:List Nat) (n:Int) (w:World) (h:bh b w z C q E S) (M:S.Ok) (Z:w.cell? ⟨0,0,none⟩=some (.int .i64 n)) (hn:S.items.length < 4294967295) (u:c≤4294967295) (J:1≤a.length) (N:a.length≤100) (y:∀x∈a,x≤255) (d:bF a=true) (j:bt S c a=true):
  Calls Tryz.prog 75 #[.pointer (some ⟨z,0,none⟩),.string (bs (71::aM c a))] w (fR b z C q E S (S.outs (c - 1) a) T w):=by
 have L:(71::aM c a).length≤536870912:=by
  unfold aM;simp only [List.length_cons,List.length_append,bf,jd];omega
 have s:bP (71::aM c a)=none:=by simp [bP]
 have r:dh (71::aM c a)=some (c,a):=by
  show (if (71:UInt8)=71 then dq (aM c a) else none)=_;rw [if_pos rfl];exact j7 u J N y d
 obtain ⟨l,V⟩:∃l,71::aM c a=l:=⟨_,rfl⟩;rw [V] at L s r ⊢;have R:=Lib.hid h;have HM:=Lib.hid (ka l n w L Z);have H:=Lib.hid s;have t:=Lib.hid r;have f:=Lib.hid j;clear h Z s r V y d j;go_enter Tryz.func75,Tryz.ntmps75;go_wp2_with fail
 refine HM.out.mono ?_;rintro e w1 ⟨p,m⟩;have A1:=Lib.hid (R.out.keep m);have F:=Lib.hid m;clear m
 rcases p with ⟨_,rfl⟩ | ⟨mm,v,d,_⟩
 case inr=>rw [H.out] at d;cases d
 simp only [aY,lf];go_wp2_with fail
 refine (ma l _ L).mono ?_;rintro e P ⟨p,o⟩;have A3:=Lib.hid ((A1.out.keep ((Below.refl _ _).alloc (Nat.le_refl _) _)).keep o);have Q:=Lib.hid ((F.out.alloc F.out.size _).trans (o.mono (Nat.le_trans F.out.size (by simp))));clear o
 rcases p with ⟨d,rfl⟩ | ⟨a1,a2,v,d,rfl,O,_,_,_,_⟩
 ·rw [t.out] at d;cases d
 rw [t.out] at d;obtain ⟨rfl,rfl⟩:=Prod.mk.inj (Option.some.inj d);obtain ⟨av,nv,cv,rfl⟩:=kj O;obtain ⟨B,k⟩:∃B:World,P.alloc (.cells #[.int .i64 c,.slice av nv cv] 193)=B:=⟨_,rfl⟩;have A:Below P.heap.size P B:=by rw [←k];exact (Below.refl _ _).alloc (Nat.le_refl _) _
 have HT:=Lib.hid (vO b z C q E _ S c a B (A3.out.keep A) M (aF (aA O fun g a0 e _=>ae A e)) u J (by omega) (by omega) f.out);have G:=Lib.hid (Q.out.trans (A.mono Q.out.size))
 have U:Hid (∀i∈(S.outs (c - 1) a).live,i∈S.live):=Lib.hid (fun i K=>by
  have hq:=f.out;rw [db J,Bool.and_eq_true,decide_eq_true_eq] at hq
  exact gS hq.1.2 K)
 have I:=Lib.hid k;clear d A k O;go_wp2_with fail
 rw [I.out];refine HT.out.mono ?_;rintro e w7 ⟨rfl,W,X,Y⟩;have HP:Hid (fR b z C q E S (S.outs (c - 1) a) T w (.returned (.bool true)) w7):=Lib.hid (fR.after R.out G.out ⟨rfl,q,W,X,fun D hd=>(Y.due U.out hd).new (fun i K=>bq (U.out i K))⟩);clear W X Y;go_wp2_with fail
 go_ret;exact HP.out
theorem tH (f D I:Nat) (q:Nat→Nat) (J:Value) (S F:aa) (d T:Nat) (b:List Nat) (n:Int) (w:World) (h:bh f w D I q J S) (V:S.Ok) (hm:w.cell? ⟨0,0,none⟩=some (.int .i64 n)) (hn:S.items.length < 4294967295) (A:d≤4294967295) (h1:1≤b.length) (W:b.length≤100) (B:∀x∈b,x≤255) (c:bF b=true) (j:bt S d b=true) (hT:T≤1000000000) (U:S.time≤T) (hS:S.takesF T d b=some F):
  Calls Tryz.prog 75 #[.pointer (some ⟨D,0,none⟩),.string (bs (70::(az 4 T++aM d b)))] w (fR f D I q J S F T w):=by
 have H:(70::(az 4 T++aM d b)).length≤536870912:=by
  unfold aM;simp only [List.length_cons,List.length_append,bf,jd];omega
 have u:bP (70::(az 4 T++aM d b))=none:=by simp [bP]
 have t:dh (70::(az 4 T++aM d b))=none:=by simp [dh]
 have s:bS (70::(az 4 T++aM d b))=some (T,d,b):=by
  show (if (70:UInt8)=70 then (fZ 4 (az 4 T++aM d b)).bind fun a=>(dq a.2).bind fun x=>if a.1≤1000000000 then some (a.1,x.1,x.2) else none else none)=_;rw [if_pos rfl,jx (k:=4) (aM d b) (show T < 256 ^ 4 by omega)];show (dq (aM d b)).bind _=_;rw [j7 A h1 W B c];show (if T≤1000000000 then some (T,d,b) else none)=_;rw [if_pos hT]
 obtain ⟨l,el⟩:∃l,70::(az 4 T++aM d b)=l:=⟨_,rfl⟩;rw [el] at H u t s ⊢;have HH:=Lib.hid h;have HM:=Lib.hid (ka l n w H hm);have P:=Lib.hid u;have N:=Lib.hid t;have z:=Lib.hid s;have O:=Lib.hid c;have Q:=Lib.hid hS;have y:=Lib.hid j;clear h hm u t s el B c j hS;go_enter Tryz.func75,Tryz.ntmps75;go_wp2_with fail
 refine HM.out.mono ?_;rintro e w1 ⟨i,o⟩;have A1:=Lib.hid (HH.out.keep o);have K:=Lib.hid o;clear o
 rcases i with ⟨_,rfl⟩ | ⟨mm,v,c,_⟩
 case inr=>rw [P.out] at c;cases c
 simp only [aY,lf];go_wp2_with fail
 refine (ma l _ H).mono ?_;rintro e w3 ⟨i,p⟩;have A3:=Lib.hid ((A1.out.keep ((Below.refl _ _).alloc (Nat.le_refl _) _)).keep p);have L:=Lib.hid ((K.out.alloc K.out.size _).trans (p.mono (Nat.le_trans K.out.size (by simp))));clear p
 rcases i with ⟨_,rfl⟩ | ⟨Y,Z,v,c,_⟩
 case inr=>rw [N.out] at c;cases c
 go_wp2_with fail
 refine (nA l _ H).mono ?_;rintro e w5 ⟨i,r⟩;have A5:=Lib.hid ((A3.out.keep ((Below.refl _ _).alloc (Nat.le_refl _) _)).keep r);have B5:=Lib.hid ((L.out.alloc L.out.size _).trans (r.mono (Nat.le_trans L.out.size (by simp))));clear r
 rcases i with ⟨c,rfl⟩ | ⟨T',Y,Z,v,c,rfl,⟨X,_,_,_,_⟩,_⟩
 ·rw [z.out] at c;cases c
 rw [z.out] at c;obtain ⟨rfl,C⟩:=Prod.mk.inj (Option.some.inj c);obtain ⟨rfl,rfl⟩:=Prod.mk.inj C;obtain ⟨av,nv,cv,rfl⟩:=kj X;obtain ⟨G,m⟩:∃G:World,w5.alloc (.cells #[.int .i64 d,.slice av nv cv] 193)=G:=⟨_,rfl⟩;have E:Below w5.heap.size w5 G:=by rw [←m];exact (Below.refl _ _).alloc (Nat.le_refl _) _
 have HT:=Lib.hid (rj f D I q J _ S F T d b G (A5.out.keep E) V _ (aA X fun g a0 e _=>ae E e) A h1 (by omega) O.out hT hn y.out U Q.out);have M:=Lib.hid (B5.out.trans (E.mono B5.out.size));have R:=Lib.hid m;clear c C E m X;go_wp2_with fail
 rw [R.out];refine HT.out.mono ?_;rintro e w7 ⟨rfl,hP⟩;have HP:Hid (fR f D I q J S F T w (.returned (.bool true)) w7):=Lib.hid (fR.after HH.out M.out ⟨rfl,hP⟩);clear hP;go_wp2_with fail
 go_ret;exact HP.out
theorem gv.after [Kn] {d c:Nat} {q:Nat→Nat} {f:Value} {S i:aa} {a l:List UInt8} {w m j:World} {e:Ending} (h:fv w d c q f S a) (b:Below w.heap.size w m) (t:gv d c q f S i a l m e j):gv d c q f S i a l w e j:=by
 obtain ⟨n,s,g,o,p,r⟩:=t;have u:=b.size;refine ⟨n,s,g,o,(aH.below b).trans p (fun _ _ e=>e.imp (cR h.inn b) id),fun k e=>(r k e).imp (fun e=>e.imp (cR h.inn b) id) (fun e=>by omega)⟩
theorem Ih [Kn] {S:aa} {K:Nat} {a:List Nat} {T:Nat} (h:Kn.n0≤S.items.length):pn S (S.outs K a) T:=
 pn.of h (by rw [bL];exact Nat.le_refl _) (fun i _=>ez S K a i) (fun i b c=>by have:=bq b;rw [bL] at this;omega)
theorem EV [Kn] {S l:aa} {T e:Nat} {f:List Nat} (h:Kn.n0≤S.items.length) (c:S.takesF T e f=some l):pn S l T:=by
 unfold aa.takesF at c
 split at c
 ·injection c with c;unfold aa.failed at c
  split at c
  ·subst c;have j:(aa.mk (S.outs (e - 1) f).items T).items.length=S.items.length:=bL S _ f;refine pn.of h (by rw [j];exact Nat.le_refl _) (fun i _=>ez S (e - 1) f i) (fun i g k=>by have:=bq g;rw [j] at this;omega)
  ·subst c;have j:((S.outs (e - 1) f).items++[(⟨⟨(S.outs (e - 1) f).items.length+1,T,[],[(S.mailOf (e - 1)).frm],Ai (S.mailOf (e - 1)).tos f⟩,[false]⟩:fH)]).length=S.items.length+1:=by rw [List.length_append,bL];rfl
   refine pn.of h (by show _≤List.length _;rw [j];omega) (fun i g=>?_) (fun i g k=>?_)
   ·have d:i < (S.outs (e - 1) f).items.length:=by rw [bL];exact g
    rw [←ez S (e - 1) f i];unfold aa.mailOf;show ((List.append _ _)[i]?.map _).getD _=_;rw [show ∀a b:List fH,List.append a b=a++b from fun _ _=>rfl,List.getElem?_append_left d]
   ·have d:=bq g;have d:i < S.items.length+1:=by rw [←j];exact d
    obtain rfl:i=S.items.length:=by omega
    unfold aa.mailOf;show aX.time (((List.append _ _)[S.items.length]?.map _).getD _)=_;rw [show ∀a b:List fH,List.append a b=a++b from fun _ _=>rfl,List.getElem?_append_right (by rw [bL];exact Nat.le_refl _),bL,Nat.sub_self];rfl
 ·cases c
theorem z8 [Kn] (g u:Nat) (q:Nat→Nat) (v H:Value) (S:aa) (b:List UInt8) (c:Nat) (a:List Nat) (n:Int) (w:World) (h:fv w g u q v S b) (r:S.Ok) (A:bg w H a.length 1 (aZ a)) (B:b.length≤1073741824) (F:w.cell? ⟨0,0,none⟩=some (.int .i64 n)) (p:0 < w.heap.size) (M:S.items.length < 4294967295) (o:c≤4294967295) (L:1≤a.length) (t:a.length≤100) (f:∀x∈a,x≤255) (G:bF a=true) (d:bt S c a=true):
  Calls Tryz.prog 120 #[.pointer (some ⟨g,0,none⟩),.int .i64 c,H] w fun e C=>e= .returned (.tuple #[])∧gv g u q v S (S.outs (c - 1) a) b (71::aM c a) w (.returned (.bool true)) C:=by
 obtain ⟨J,K,rfl,_⟩:=A.one;have D:Hid (∀W:World,Below w.heap.size w W→Calls Tryz.prog 171 #[.agg #[.int .i64 c,.slice J a.length K]] W fun e C=>e= .returned (.string (bs (71::aM c a)))∧Below W.heap.size W C):=Lib.hid (fun W k=>xr _ c a W (A.below k) o t f)
 have z:(71::aM c a).length≤1000:=by
  unfold aM;simp only [List.length_cons,List.length_append,bf,jd];omega
 have j:Hid (∀W:World,Below w.heap.size w W→Calls Tryz.prog 123 #[.pointer (some ⟨g,0,none⟩),.string (bs (71::aM c a))] W (gv g u q v S (S.outs (c - 1) a) b (71::aM c a) W)):=Lib.hid (fun W k=>kY g u q v S _ b _ S.time W (h.below k) (Ih h.kn) (by omega) B (tJ 0 g u q v S c S.time a n W (h.below k).inn r ((k.cell p).trans F) M o L t f G d));obtain ⟨l,E⟩:∃l,71::aM c a=l:=⟨_,rfl⟩;rw [E] at D j ⊢;have N:¬(a.length:Int)≤0:=by omega
 have O:(0:Int) < (a.length:Int):=by omega
 have I:=Lib.hid h;clear h A F p E f G d z r;go_enter Tryz.func120,Tryz.ntmps120;go_wp2_with fail
 refine (D.out w (Below.refl _ _)).mono ?_;rintro e P ⟨rfl,m⟩;have i:=Lib.hid m;clear m;go_wp2_with fail
 refine (j.out P i.out).mono ?_;intro e Q s;have y:=Lib.hid (gv.after I.out i.out s);obtain ⟨rfl,_⟩:=s;go_wp2_with fail
 refine bodyPost_end (results_none rfl _ _ _) rfl ?_;exact ⟨rfl,y.out⟩
theorem wv [Kn] (f u:Nat) (q:Nat→Nat) (v J:Value) (S y:aa) (b:List UInt8) (c:Nat) (a:List Nat) (n:Int) (w:World) (h:fv w f u q v S b) (r:S.Ok) (C:bg w J a.length 1 (aZ a)) (D:b.length≤1073741824) (H:w.cell? ⟨0,0,none⟩=some (.int .i64 n)) (p:0 < w.heap.size) (P:S.items.length < 4294967295) (o:c≤4294967295) (N:1≤a.length) (t:a.length≤100) (g:∀x∈a,x≤255) (I:bF a=true) (d:bt S c a=true) (O:S.time≤1000000000) (A:S.takesF S.time c a=some y):
  Calls Tryz.prog 83 #[.pointer (some ⟨f,0,none⟩),.int .i64 c,J] w fun e E=>e= .returned (.tuple #[])∧gv f u q v S y b (70::(az 4 S.time++aM c a)) w (.returned (.bool true)) E:=by
 obtain ⟨L,M,rfl,_⟩:=C.one;have F:Hid (∀W:World,Below w.heap.size w W→Calls Tryz.prog 124 #[.int .i64 S.time,.agg #[.int .i64 c,.slice L a.length M]] W fun e E=>e= .returned (.string (bs (70::(az 4 S.time++aM c a))))∧Below W.heap.size W E):=Lib.hid (fun W k=>sL _ S.time c a W (C.below k) (by omega) o t g)
 have B:(70::(az 4 S.time++aM c a)).length≤1000:=by
  unfold aM;simp only [List.length_cons,List.length_append,bf,jd];omega
 have j:Hid (∀W:World,Below w.heap.size w W→Calls Tryz.prog 123 #[.pointer (some ⟨f,0,none⟩),.string (bs (70::(az 4 S.time++aM c a)))] W (gv f u q v S y b (70::(az 4 S.time++aM c a)) W)):=Lib.hid (fun W k=>kY f u q v S _ b _ S.time W (h.below k) (EV h.kn A) (by omega) D (tH 0 f u q v S y c S.time a n W (h.below k).inn r ((k.cell p).trans H) P o N t g I d O (Nat.le_refl _) A));obtain ⟨l,G⟩:∃l,70::(az 4 S.time++aM c a)=l:=⟨_,rfl⟩;rw [G] at F j ⊢;have Q:(0:Int) < (a.length:Int):=by omega
 have T:w.cell? ⟨f,1,none⟩=some (.int .i64 S.time):=by rw [Lib.cell_of_heap h.inn.bag];rfl
 have K:=Lib.hid h;clear h C H p G g I d B r A;go_enter Tryz.func83,Tryz.ntmps83;go_wp2_with fail
 refine (F.out w (Below.refl _ _)).mono ?_;rintro e R ⟨rfl,m⟩;have i:=Lib.hid m;clear m;go_wp2_with fail
 refine (j.out R i.out).mono ?_;intro e U s;have z:=Lib.hid (gv.after K.out i.out s);obtain ⟨rfl,_⟩:=s;go_wp2_with fail
 refine bodyPost_end (results_none rfl _ _ _) rfl ?_;exact ⟨rfl,z.out⟩
theorem Ci (d:Nat) (b:Value) (c:Int) (w:World) (a:bg w b 0 1 []):
  Calls Tryz.prog 120 #[.pointer (some ⟨d,0,none⟩),.int .i64 c,b] w fun e f=>e= .returned (.tuple #[])∧w=f:=by
 obtain ⟨g,h,rfl,_⟩:=a.one;clear a;go_enter Tryz.func120,Tryz.ntmps120;go_wp2_with fail
 refine bodyPost_end (results_none rfl _ _ _) rfl ?_;exact ⟨rfl,rfl⟩
theorem yB (d:Nat) (b:Value) (c:Int) (w:World) (a:bg w b 0 1 []):
  Calls Tryz.prog 83 #[.pointer (some ⟨d,0,none⟩),.int .i64 c,b] w fun e f=>e= .returned (.tuple #[])∧w=f:=by
 obtain ⟨g,h,rfl,_⟩:=a.one;clear a;go_enter Tryz.func83,Tryz.ntmps83;go_wp2_with fail
 refine bodyPost_end (results_none rfl _ _ _) rfl ?_;exact ⟨rfl,rfl⟩
theorem bh.waits {d E B:Nat} {q:Nat→Nat} {J:Value} {S:aa} {w t:World} (h:bh d w E B q J S) {i:Nat} (y:i∈S.live) (s:aL (q i) w t) {C:Array Value} (r:w.heap[q i]? =some (.cells C 158 (0,0))) (a b:Int)
  (F:t.heap[q i]? =some (.cells ((C.setIfInBounds 4 (.int .i64 a)).setIfInBounds 5 (.int .i64 b)) 158 (0,0))):bh d t E B q J S∧(∀k,fM t E B q S k→fM w E B q S k)∧∀D,jk w q S.live D→jk t q S.live (fun j=>if j=i then (a,b) else D j):=by
 obtain ⟨T,I,V,K,U⟩:=h.mail i y;have c:=K;unfold dL at c;rw [r] at c;injection c with c;injection c with c;subst c;refine ⟨⟨aP s h.bag (fun e=>?_),aP s h.map (fun e=>?_),h.pbb,h.mbb,h.one,fun j f=>?_⟩,fun k R=>?_,fun D Q j f=>?_⟩
 ·rw [←e,h.bag] at r;simp at r
 ·have:=h.map;unfold gh at this;rw [e,r] at this;simp at this
 ·obtain ⟨H,v,x,l,L⟩:=h.mail j f
  have n:t.ownsRow d 162 2 v (S.stayOf j).length (aR (S.stayOf j)):=aA L fun g M e _=>aP s e fun o=>by
   rw [o,r] at e;simp at e
  by_cases e:j=i
  ·subst e;unfold dL at l;rw [r] at l;injection l with l;injection l with l
   have u:I=v:=by
    have:=congrArg (fun A:Array Value=>A[2]?) l;simpa using this
   subst u;exact ⟨H,I,(a,b),F,n⟩
  ·exact ⟨H,v,x,aP s l (fun o=>e (h.one j f i y o)),n⟩
 ·rcases R with e | e | ⟨j,f,e | ⟨D,z,m,u⟩⟩
  ·exact .inl e
  ·exact .inr (.inl e)
  ·exact .inr (.inr ⟨j,f,.inl e⟩)
  ·by_cases p:j=i
   ·subst p;rw [F] at m;injection m with m;injection m with m;subst m;exact .inr (.inr ⟨j,f,.inr ⟨_,_,r,u⟩⟩)
   ·obtain ⟨_,v,x,l,_⟩:=h.mail j f;rw [s.2 _ (fun o=>p (h.one j f i y o))] at m;exact .inr (.inr ⟨j,f,.inr ⟨_,_,m,u⟩⟩)
 ·by_cases p:j=i
  ·subst p;exact ⟨_,F,by simp,by simp⟩
  ·obtain ⟨D',N,O,P⟩:=Q j f;have G:q j≠q i:=fun o=>p (h.one j f i y o);exact ⟨D',(s.2 _ G).trans N,by simp only [if_neg p];exact O,by simp only [if_neg p];exact P⟩
abbrev iQ (K:Kn) (S':aa) (i:Nat) (d:Int×Int):Kn:=⟨fun j=>if j=i then d else @bV K S' j,S'.items.length,K.tk⟩
def kH (l:List Int) (f:Int):Int:=l.getD (if (l.length:Int) - 1 < f then l.length - 1 else f.toNat) 0
theorem fv.rekn [K:Kn] {w:World} {g f:Nat} {q:Nat→Nat} {b:Value} {S:aa} {a:List UInt8} {i:Nat} {d:Int×Int} (h:bh 0 w g f q b S) (k:dT w b a) (l:jk w q S.live (fun j=>if j=i then d else bV S j)):@fv (iQ K S i d) w g f q b S a:=
 @fv.mk (iQ K S i d) _ _ _ _ _ _ _ h k (fun j c=>by
  have e:@bV (iQ K S i d) S j=if j=i then d else bV S j:=by
   show (if j < S.items.length then (if j=i then d else bV S j) else _)=_;rw [if_pos (bq c)]
  rw [e]
  exact l j c) (Nat.le_refl _)
def gn [K:Kn] (pb mb:Nat) (q:Nat→Nat) (vr:Value) (S:aa) (y:aa×List UInt8) (w w':World):Prop:=
 ∃q' vr',fv w' pb mb q' vr' y.1 y.2∧aH (an w pb mb q vr S) w w'∧∀k,an w' pb mb q' vr' y.1 k→an w pb mb q vr S k∨w.heap.size≤k
theorem zJ [K:Kn] (d o:Nat) (q:Nat→Nat) (g f:Value) (S:aa) (a:List UInt8) (i:Nat) (b:List Nat) (n:Int) (w:World) (h:fv w d o q g S a) (m:oK (S,a)) (t:bg w f b.length 1 (aZ b)) (s:w.cell? ⟨0,0,none⟩=some (.int .i64 n)) (C:i≤4294967294) (j:b.length≤100) (l:∀x∈b,x≤255) (z:bF b=true) (c:b≠[]→bt S (i+1) b=true):
  Calls Tryz.prog 120 #[.pointer (some ⟨d,0,none⟩),.int .i64 ((i:Int)+1),f] w fun e r=>e= .returned (.tuple #[])∧gn d o q g S (i7 (S,a) i b) w r:=by
 by_cases e:b=[]
 ·subst e;refine (Ci d f _ w t).mono ?_;rintro e r ⟨rfl,rfl⟩;exact ⟨rfl,q,g,h,aH.refl _ _,fun k e=> .inl e⟩
 ·refine (z8 d o q g f S a (i+1) b n w h m.ok t (by have:=m.led.len;simp only at this;omega) s (aC s) (by have:=m.led.items;simp only at this;omega) (by omega) (List.length_pos_iff.2 e) j l z (c e)).mono ?_;rintro B r ⟨rfl,_,A,p,u,v,y⟩;unfold i7;rw [if_neg e];exact ⟨rfl,A,p,u,v,y⟩
theorem nI [K:Kn] (g o:Nat) (q:Nat→Nat) (l j:Value) (S:aa) (a:List UInt8) (i:Nat) (b:List Nat) (n:Int) (w:World) (h:fv w g o q l S a) (f:oK (S,a)) (t:bg w j b.length 1 (aZ b)) (s:w.cell? ⟨0,0,none⟩=some (.int .i64 n)) (E:i≤4294967294) (d:b.length≤100) (m:∀x∈b,x≤255) (u:bF b=true) (c:b≠[]→bt S (i+1) b=true):
  Calls Tryz.prog 83 #[.pointer (some ⟨g,0,none⟩),.int .i64 ((i:Int)+1),j] w fun e r=>e= .returned (.tuple #[])∧gn g o q l S (jr (S,a) i b) w r:=by
 by_cases e:b=[]
 ·subst e;refine (yB g j _ w t).mono ?_;rintro e r ⟨rfl,rfl⟩;exact ⟨rfl,q,l,h,aH.refl _ _,fun k e=> .inl e⟩
 ·have B:=(nP f d u c).2 e;refine (wv g o q l j S _ a (i+1) b n w h f.ok t (by have:=f.led.len;simp only at this;omega) s (aC s) (by have:=f.led.items;simp only at this;omega) (by omega) (List.length_pos_iff.2 e) d m u (c e) f.time B).mono ?_;rintro D r ⟨rfl,_,C,p,y,z,A⟩;refine ⟨rfl,C,p,?_,z,A⟩;have v:(jr (S,a) i b).2=a++bJ (70::(az 4 S.time++aM (i+1) b)):=by unfold jr;rw [if_neg e]
  rw [v];exact y
def Kc (w:World) (pb mb:Nat) (q:Nat→Nat) (vr:Value) (S:aa) (v:Value):Prop:=∀g,v.ownBlock=some g→g < w.heap.size∧¬an w pb mb q vr S g
theorem DH [K:Kn] (d f:Nat) (q:Nat→Nat) (H vg vf vw:Value) (S:aa) (a:List UInt8) (i:Nat) (u m:List Nat) (c:List Int) (n:Int) (w:World) (h:fv w d f q H S a) (hx:oK (S,a)) (hi:i∈S.live) (rg:bg w vg u.length 1 (aZ u)) (rf:bg w vf m.length 1 (aZ m)) (Z:bg w vw c.length 1 (ib c)) (of:Kc w d f q H S vf) (ow:Kc w d f q H S vw)
  (hm:w.cell? ⟨0,0,none⟩=some (.int .i64 n)) (c4:¬an w d f q H S 0) (b7:u.length≤100) (b5:m.length≤100) (b6:∀x∈u,x≤255) (b4:∀x∈m,x≤255) (c5:bF u=true) (X:bF m=true) (r:∀p∈u,p∈(S.stayOf i).map (·.1)) (hf:∀p∈m,p∈(S.stayOf i).map (·.1)) (hd:∀p∈u,p ∉ m)
  (f3:1≤c.length) (f5:c.length≤100) (c6:∀x∈c,1≤x∧x≤1000000000) (b2:0≤(bV S i).2) (b3:(bV S i).2≤1000000000000):
  Calls Tryz.prog 79 #[.pointer (some ⟨d,0,none⟩),.int .i64 ((i:Int)+1),vg,vf,vw] w fun e w'=>e= .returned (.tuple #[])∧∃q' c7,@fv (iQ K (kR (S,a) i u m).1 i (S.time+kH c (bV S i).2,(bV S i).2+1)) w' d f q' c7 (kR (S,a) i u m).1 (kR (S,a) i u m).2∧aH (an w d f q H S) w w'∧∀k,an w' d f q' c7 (kR (S,a) i u m).1 k→an w d f q H S k∨w.heap.size≤k:=by
 obtain ⟨m1,l1,m2,l2,t2⟩:=kS hx hi b7 b5 X r hf hd;have e5:i < S.items.length:=bq hi;have b8:i≤4294967294:=by have:=hx.led.items;simp only at this;omega
 have HG:=Lib.hid (zJ d f q H vg S a i u n w h hx rg hm b8 b7 b6 c5 m1);obtain ⟨G,R⟩:∃G,i7 (S,a) i u=G:=⟨_,rfl⟩;obtain ⟨I,T⟩:∃I,kR (S,a) i u m=I:=⟨_,rfl⟩;have b1:jr G i m=I:=by rw [←R,←T];rfl
 rw [R] at HG l1 m2 l2 t2;rw [T] at l2 t2 ⊢;have Q:=l1.aft.trans l2.aft;have eD:bV I.1 i=bV S i:=by unfold bV;rw [Q.mail i e5]
 have eT:I.1.time=S.time:=Q.time
 have HF:Hid (∀Y s (E:World),fv E d f Y s G.1 G.2→bg E vf m.length 1 (aZ m)→E.cell? ⟨0,0,none⟩=some (.int .i64 n)→Calls Tryz.prog 83 #[.pointer (some ⟨d,0,none⟩),.int .i64 ((i:Int)+1),vf] E fun e w'=>e= .returned (.tuple #[])∧gn d f Y s G.1 I E w'):=Lib.hid (fun Y s E h1 h2 h3=>by
  have:=nI d f Y s vf G.1 G.2 i m n E h1 l1.ok h2 h3 b8 b5 b4 X m2;rw [show jr (G.1,G.2) i m=I from b1] at this
  exact this)
 obtain ⟨F,eF⟩:∃F,(bV S i).2=F:=⟨_,rfl⟩;obtain ⟨aw,cw,ew,e4⟩:=Z.one
 obtain ⟨k,V,M⟩:∃k:Nat,k < c.length∧(if (c.length:Int) - 1 < F then (c.length:Int) - 1 else F)=(k:Int)∧kH c F=c.getD k 0:=by
  rw [eF] at b2 b3
  by_cases hc:(c.length:Int) - 1 < F
  ·refine ⟨c.length - 1,by omega,?_,?_⟩
   ·rw [if_pos hc];omega
   ·unfold kH;rw [if_pos hc]
  ·refine ⟨F.toNat,by omega,?_,?_⟩
   ·rw [if_neg hc];omega
   ·unfold kH;rw [if_neg hc]
 obtain ⟨M,e6⟩:=M;obtain ⟨W,eW⟩:∃W,c.getD k 0=W:=⟨_,rfl⟩
 have hW:1≤W∧W≤1000000000:=by
  rw [←eW,List.getD_eq_getElem?_getD,List.getElem?_eq_getElem V];exact c6 _ (List.getElem_mem V)
 rw [eF,e6,eW];have f0:S.time≤1000000000:=hx.time;have HH:=Lib.hid h;have e8:=Lib.hid l2.ok;have a9:=Lib.hid Z;have d2:=Lib.hid of;have a7:=Lib.hid ow;have d3:=Lib.hid rf;have d1:=Lib.hid c4;have HM:=Lib.hid hm
 have c8:Hid (∀W2:World,bg W2 vw c.length 1 (ib c)→∃b A,aw=some ⟨b,A,none⟩∧W2.cell? ⟨b,A+k,none⟩=some (.int .i64 W)):=Lib.hid (fun W2 hr=>by
  obtain ⟨a',c',e',e0⟩:=hr.one;rw [ew] at e';injection e' with e1 _ _;obtain ⟨b,A,e2,_,e3⟩:=e0 k V;refine ⟨b,A,e1.trans e2,?_⟩;rw [e3,←eW];unfold ib;rw [List.getElem?_map,List.getElem?_eq_getElem V,List.getD_eq_getElem?_getD,List.getElem?_eq_getElem V]
  rfl)
 have b0:=Lib.hid (l2.ok.led.items);have c9:=Lib.hid eD;rw [eF] at b2 b3;clear h hx rg rf Z of ow hm c4 l1 l2 m1 m2 t2 r hf hd c5 X b6 b4 R T b1 Q eD c6 e4 eW;subst ew;go_enter Tryz.func79,Tryz.ntmps79;go_wp2_with fail
 refine HG.out.mono ?_;rintro e E ⟨rfl,Y,s,R1,K1,O1⟩;have O:∀{v:Value},Kc w d f q H S v→Kc E d f Y s G.1 v:=fun ho g r=>⟨Nat.lt_of_lt_of_le (ho g r).1 K1.size,fun e=>(O1 g e).elim (ho g r).2 (fun e=>by have:=(ho g r).1;omega)⟩;have e7:0 < w.heap.size:=aC HM.out;have M1:E.cell? ⟨0,0,none⟩=some (.int .i64 n):=(World.cell?_of_block (K1.block _ e7 d1.out)).trans HM.out;have d0:=Lib.hid (HF.out Y s E R1 (d3.out.chg K1 (fun g r=>(d2.out g r).2)) M1);have d7:=Lib.hid (a9.out.chg K1 (fun g r=>(a7.out g r).2));have a8:=Lib.hid (O a7.out);have a4:=Lib.hid K1;have a6:=Lib.hid O1;clear R1 K1 O1 O M1;go_wp2_with fail
 refine d0.out.mono ?_;rintro e l ⟨rfl,B,a0,N,K2,O2⟩;have a5:Hid (aH (an w d f q H S) w l):=Lib.hid (a4.out.trans K2 (fun k V e=>(a6.out k e).elim id (fun e=>by omega)));have P:Hid (∀k,an l d f B a0 I.1 k→an w d f q H S k∨w.heap.size≤k):=Lib.hid (fun k e=>(O2 k e).elim (a6.out k) (fun e=> .inr (Nat.le_trans a4.out.size e)));obtain ⟨b,A,ea,cb⟩:=c8.out l (d7.out.chg K2 (fun g r=>(a8.out g r).2));subst ea;have c3:l.cell? ⟨d,3,none⟩=some (.map (some f)):=by rw [Lib.cell_of_heap N.inn.bag];rfl
 have c1:l.cell? ⟨d,1,none⟩=some (.int .i64 (S.time:Int)):=by rw [Lib.cell_of_heap N.inn.bag,←eT];rfl
 have y:∀i∈I.1.live,i < 4294967296:=fun i hi=>by have:=bq hi;have:=b0.out;omega
 have o:=Lib.hid N;clear K2 O2
 by_cases hl:i∈I.1.live
 ·have c0:(Instr.lookup 115 (.map (some f)) (.int .i64 ((i:Int)+1)) true).run Tryz.prog l= .ok (.tuple #[.pointer (some ⟨B i,0,none⟩),.bool true]) l:=
   ig (t:=115) (e:=122) fU Tryz.underlying115 N.inn.map y i (by omega) hl true
  obtain ⟨C,hC,U,D⟩:=N.due i hl;rw [c9.out] at U D;rw [eF] at D;have J:l.drew.heap[B i]? =some (.cells C 158 (0,0)):=hC;have d4:l.drew.cell? ⟨B i,4,none⟩=some (.int .i64 (bV S i).1):=by rw [Lib.cell_of_heap J,U]
  have d5:l.drew.cell? ⟨B i,5,none⟩=some (.int .i64 F):=by rw [Lib.cell_of_heap J,D]
  have f4:=Lib.frozen_of_heap J 4;have e1:l.drew.cell? ⟨d,1,none⟩=some (.int .i64 (S.time:Int)):=c1;have c2:min F ((c.length:Int) - 1)=(k:Int):=by rw [←M];by_cases hc:(c.length:Int) - 1 < F <;> simp only [hc,if_true,if_false] <;> omega
  have eb:l.drew.cell? ⟨b,A+(min F ((c.length:Int) - 1)).toNat,none⟩=some (.int .i64 W):=by rw [c2,Int.toNat_natCast];exact cb
  have f8:IntKind.i64.wrap ((S.time:Int)+W)=(S.time:Int)+W:=by rw [IntKind.wrap_i64];omega
  have f6:IntKind.i64.wrap (F+1)=F+1:=by rw [IntKind.wrap_i64];omega
  have f7:IntKind.i64.wrap ((c.length:Int) - 1)=(c.length:Int) - 1:=by rw [IntKind.wrap_i64];omega
  have f2:(0:Int)≤min F ((c.length:Int) - 1):=by omega
  have f1:min F ((c.length:Int) - 1) < (c.length:Int):=by omega
  obtain ⟨W3,L⟩:∃W3:World,(l.setCell ⟨B i,4,none⟩ (.int .i64 (S.time+W))).drew=W3:=⟨_,rfl⟩;have S3:aL (B i) l W3:=by rw [←L];exact ((aL.refl _ _).setCell _).drew
  have X3:W3.heap[B i]? =some (.cells (C.setIfInBounds 4 (.int .i64 (S.time+W))) 158 (0,0)):=by rw [←L];exact heap_setCell_same l _ 4 _ _ _ hC
  have x5:W3.cell? ⟨B i,5,none⟩=some (.int .i64 F):=by rw [Lib.cell_of_heap X3,Array.getElem?_setIfInBounds_ne (by decide)];exact D
  have y5:=Lib.frozen_of_heap X3 5;have HC:=Lib.hid hC;have d9:=Lib.hid X3;have d6:=Lib.hid S3;have d8:=Lib.hid L;clear N hC U D y J X3 S3 L;go_wp2_with fail
  clear c1 cb c3 c0 c2 M;go_region
  all_goals
   rw [d8.out];go_wp2_with fail
   refine bodyPost_end (results_none rfl _ _ _) rfl ?_;have S1:aL (B i) l (W3.setCell ⟨B i,5,none⟩ (.int .i64 (F+1))):=d6.out.setCell _;obtain ⟨g1,g2,g3⟩:=o.out.inn.waits hl S1 HC.out (S.time+W) (F+1) (heap_setCell_same _ _ 5 _ _ _ d9.out);refine ⟨rfl,B,a0,fv.rekn g1 (o.out.row.chg (aH.same S1) (fun g r e=>?_)) (g3 _ o.out.due),a5.out.trans (aH.same S1) (fun k V e=>?_),fun k e=>P.out k (e.imp (g2 k) id)⟩
   ·rw [e] at r;obtain ⟨e9,z,h1⟩:=o.out.row.tag r;rw [HC.out] at h1;simp at h1
   ·exact (P.out k (.inl (.inr (.inr ⟨i,hl,.inl e⟩)))).elim id (fun e=>by omega)
 ·have c0:(Instr.lookup 115 (.map (some f)) (.int .i64 ((i:Int)+1)) true).run Tryz.prog l= .ok (.tuple #[.pointer none,.bool false]) l:=
   rM (t:=115) (e:=122) fU Tryz.underlying115 (pk _) N.inn.map y i (by omega) hl true
  clear N y;go_wp2_with fail
  refine bodyPost_end (results_none rfl _ _ _) rfl ?_;refine ⟨rfl,B,a0,fv.rekn o.out.inn o.out.row (fun j hj=>?_),a5.out,P.out⟩;have:j≠i:=fun e=>hl (by rw [←e];exact hj);obtain ⟨C,a1,a2,a3⟩:=o.out.due j hj;exact ⟨C,a1,by simp only [if_neg this];exact a2,by simp only [if_neg this];exact a3⟩

end Go.Proofs.YtofpegbpgkkgkaaGreatDoor
