import Derived.Test.YtofpegbpgkkgkaaGreatDoorS14
import Derived.Test.YtofpegbpgkkgkaaGreatDoorS17
import Derived.Test.YtofpegbpgkkgkaaGreatDoorS29
import Derived.Test.YtofpegbpgkkgkaaGreatDoorS24
namespace Go.Proofs.YtofpegbpgkkgkaaGreatDoor
set_option maxHeartbeats 8000000
set_option maxRecDepth 1000000
open Go.RowKit
def aa.toldOf (S:aa) (i:Nat):aR:=⟨i+1,(S.mailOf i).time,(S.mailOf i).frm,gg (S.stayOf i),(S.mailOf i).body⟩
theorem FX {S:aa} (a:S.Ok) {i:Nat} (h:i < S.items.length):S.items[i].now=S.toldOf i:=by
 unfold fE.now aa.toldOf;rw [bR h,gF h,a.id i h]
 congr 1
 unfold gg stay;rw [List.map_map];rfl
theorem zS {S:aa} (a:S.Ok):ji S.items=S.live.map S.toldOf:=by
 have b:S.items.map fE.now=(List.range S.items.length).map S.toldOf:=by
  apply List.ext_getElem (by simp);intro i c d;rw [List.getElem_map,List.getElem_map,List.getElem_range];exact FX a (by simpa using c)
 unfold ji aa.live;rw [b,List.filter_map]
 congr 1
 apply List.filter_congr;intro i e;show (!(S.toldOf i).tos.isEmpty)=_;unfold aa.toldOf gg;simp
def gI (x:aR×Nat):aR×Value:=(x.1,.slice (some ⟨x.2,0,none⟩) x.1.tos.length x.1.tos.length)
structure je (s:Nat) (w:World) (v:Value) (rows:List (aR×Nat)):Prop where
 row:w.ownsRow s 45 5 v rows.length (fv (rows.map gI))
 tos:∀x∈rows,w.ownsRow s 9 1 (gI x).2 x.1.tos.length (az x.1.tos)
 apart:(rows.map (·.2)).Nodup
theorem je.keep {s:Nat} {w c:World} {v:Value} {a:List (aR×Nat)} (h:je s w v a) (b:Below w.heap.size w c):je s c v a:=
 ⟨ax h.row fun _g _cur e _=>ae b e,fun x d=>ax (h.tos x d) fun _g _cur e _=>ae b e,h.apart⟩
theorem je.mails {s:Nat} {w:World} {v:Value} {a:List (aR×Nat)} (h:je s w v a):kO s w v (a.map gI):=
 ⟨by rw [List.length_map];exact h.row,fun x b=>by
  obtain ⟨y,c,rfl⟩:=List.mem_map.1 b
  exact h.tos y c⟩
theorem je.plus {s g:Nat} {q l e:World} {v v':Value} {d:List (aR×Nat)} {m:aR} {o:Obj} (h:je s l v d) (u:∀x∈d,x.2 < g) (t:l.ownsRow s 9 1 (gI (m,g)).2 m.tos.length (az m.tos)) (r:Below s q l) (w:s≤l.heap.size)
  (j:e.ownsRow s 45 5 v' (d.length+1) (fv (d.map gI)++(aV m (gI (m,g)).2).toList)) (i:(l.alloc o).grownBy e v.ownBlock):je s e v' (d++[(m,g)])∧Below s q e:=by
 obtain ⟨⟨a,b⟩,c⟩:=Ee (rows:=d.map gI) (m:=m) (vt:=(gI (m,g)).2) (fun x k=>by
  obtain ⟨y,n,rfl⟩:=List.mem_map.1 k
  exact h.tos y n) (by rw [List.length_map];exact h.row) t r w (by rw [List.length_map];exact j) i
 refine ⟨⟨?_,fun x k=>?_,?_⟩,c⟩
 ·rw [List.map_append];have:e.ownsRow s 45 5 v' (d.length+1) (fv (d.map gI++[(m,(gI (m,g)).2)])):=by simpa using a
  rw [List.length_append];exact this
 ·rcases List.mem_append.1 k with f | f
  ·exact b (gI x) (List.mem_append.2 (.inl (List.mem_map.2 ⟨x,f,rfl⟩)))
  ·simp only [List.mem_singleton] at f;subst f;exact b (gI (m,g)) (List.mem_append.2 (.inr (by simp;rfl)))
 ·rw [List.map_append,List.nodup_append];refine ⟨h.apart,by simp,fun x k y n=>?_⟩
  obtain ⟨z,p,rfl⟩:=List.mem_map.1 k;simp only [List.map_cons,List.map_nil,List.mem_singleton] at n;have:=u z p;omega
theorem po {l c:World} {s n m t k:Nat} {e r:TypeId} {u v:Value} {w B:List Value} {o:Obj} (h:l.ownsRow s e t u n w) (A:l.ownsRow s r k v m B) (a:(l.alloc o).grownBy c v.ownBlock) (j:e≠r):c.ownsRow s e t u n w:=by
 refine (h.alloc o).kept a ?_
 rcases h.2 with ⟨d,_⟩ | ⟨g,x,y,d,_,z,_⟩
 ·subst d;exact .inl rfl
 ·refine .inr fun b=>?_
  rcases A.2 with ⟨f,_⟩ | ⟨C,p,q,f,_,i,_⟩
  ·rw [f,d] at b;cases b
  ·rw [f,d] at b;injection b with b;exact Co z i j b
theorem Hb {P:Program} {k e t d:TypeId} {w:World} {b c:Nat} {q:Nat→Nat} {l:List Nat} (a:P.underlying t=some (.map k e)) (h:fP w b q l c):(Builtin.len_ #[t] d #[.map (some b)]).run P w= .ok (.int .i64 l.length) w:=by
 simp [Builtin.len_,run_underlying a,MapKept.run_getObj_map h,cF,Result.andThen,goInt]
theorem wN (z pb F:Nat) (q:Nat→Nat) (vr:Value) (S:aa) (w:World) (h:bf z w pb F q vr S) (J:S.Ok) (hn:S.items.length≤1048576):
  Calls Tryz.prog 35 #[.pointer (some ⟨pb,0,none⟩)] w fun e L=>∃v d,e= .returned v∧je w.heap.size L v d∧d.map (·.1)=ji S.items∧Below w.heap.size w L:=by
 have c3:w.cell? ⟨pb,3,none⟩=some (.map (some F)):=by rw [Lib.cell_of_heap h.bag];rfl
 have a4:=s9 S;have b7:∀ty,(Builtin.len_ #[115] ty #[.map (some F)]).run Tryz.prog w= .ok (.int .i64 S.live.length) w:=fun ty=>Hb Tryz.underlying115 h.map;obtain ⟨im,a2,B,C,E⟩:=info_parts vL;have HH:=Lib.hid h;have HQ:=Lib.hid (zS J);have T:=Lib.hid J;have c8:=h.pblt;clear h J;go_enter Tryz.func35,Tryz.ntmps35
 go_wp2_with (first
  | (at_make;refine wpList_make_own _ rfl _ _ 35 rfl w.heap.size 45 im _ 5 Tryz.underlying35 a2 B C .i64 .i64 _ S.live.length rfl rfl rfl ?b2 ?b3 (Nat.le_refl _) ?_;rotate_left 2;intro M s o;have N:=Lib.hid ((Below.refl w.heap.size w).grown o (Nat.le_refl _) (fun j hj=>by cases hj));have A1:=HH.out.keep N.out;have b1:M.cell? ⟨pb,3,none⟩=some (.map (some F)):=(by rw [Lib.cell_of_heap A1.bag];rfl);have O:=Lib.hid A1;have U:=Lib.hid s;clear A1 s o)
  | fail)
 case b2=>rw [E];omega
 case b3=>unfold maxLen;omega
 refine (zu (some F) M).mono ?_;rintro e w2 ⟨rfl,a8⟩;have X:=Lib.hid a8;clear a8 b1 b7 c3;go_wp2_with fail
 rw [X.out];refine (mF M F S.items.length q S.live O.out.map (fun i hi=>bm hi) (nB S) hn a4).mono ?_;rintro e w3 ⟨vk,rfl,I,Z⟩;have B3:Hid (Below M.heap.size M w3):=Lib.hid (((Below.refl _ M).alloc (Nat.le_refl _) _).trans (Z.mono (by omega)));have V:Hid (je w.heap.size w3 (.slice (some ⟨w.heap.size,0,none⟩) 0 S.live.length) []):=Lib.hid ⟨ax U.out fun g Y e _=>ae B3.out e,fun x K=>by simp at K,by simp⟩
 have R:Hid (w3.ownsRow w.heap.size 3 1 vk S.live.length ((ie S.live).map fun (i:Int)=> .int .i64 i)):=Lib.hid (I.mono (by have:=N.out.size;omega));have P:Hid (Below w.heap.size w w3):=Lib.hid (N.out.trans (B3.out.mono N.out.size))
 obtain ⟨ak,ck,rfl⟩:∃a c,vk= .slice a S.live.length c:=by
  rcases I.2 with ⟨e,h0⟩ | ⟨g,d0,Y,e,_⟩
  ·exact ⟨_,_,by rw [h0];exact e⟩
  ·exact ⟨_,_,e⟩
 clear I Z X O N B3 U;go_wp2_with fail
 go_loopw [3,5,19] (fun v _ i L=>∃(k:Nat) (d:List (aR×Nat)),k≤S.live.length∧i= .int .i64 k∧d.length=k∧Hid (d.map (·.1)=(S.live.take k).map S.toldOf)∧Hid (je w.heap.size L v d)∧Hid (L.ownsRow w.heap.size 3 1 (.slice ak S.live.length ck) S.live.length ((ie S.live).map fun (i:Int)=> .int .i64 i))∧Hid (Below w.heap.size w L)) (fun _ _ i _=>S.live.length - (intOf i).toNat)
 case atStart=>exact ⟨0,[],Nat.zero_le _,rfl,rfl,Lib.hid rfl,V,R,P⟩
 case round=>
  clear V R P;obtain ⟨k,d,hk,rfl,b8,HE,HR,HK,HB⟩:=hrel
  by_cases y:k < S.live.length
  ·have c7:(k:Int) < (S.live.length:Int):=by omega
   obtain ⟨a',c6,ea,hc⟩:=(aC HK.out).one;injection ea with ea1 _ ea3;subst ea1 ea3;obtain ⟨b,d4,rfl,d1,f⟩:=hc k y;have a1:((ie S.live).map fun (i:Int)=>Value.int .i64 i)[k]? =some (.int .i64 ((S.live[k]:Int)+1)):=by simp [ie,y]
   rw [a1] at f;have p:S.live[k]∈S.live:=List.getElem_mem y;have Q:Hid ((S.live.take (k+1)).map S.toldOf=d.map (·.1)++[S.toldOf S.live[k]]):=Lib.hid (by rw [List.take_succ_eq_append_getElem y,List.map_append,HE.out];rfl)
   generalize S.live[k]=i at f p Q
   have a3:=bm p;have Ar:=HH.out.keep HB.out;have b4:wr.cell? ⟨pb,3,none⟩=some (.map (some F)):=by rw [Lib.cell_of_heap Ar.bag];rfl
   have b6:(Instr.lookup 115 (.map (some F)) (.int .i64 ((i:Int)+1)) false).run Tryz.prog wr= .ok (.pointer (some ⟨q i,0,none⟩)) wr:=
    gQ (t:=115) (e:=122) fJ Tryz.underlying115 Ar.map (fun j hj=>by have:=bm hj;omega) i (by omega) p false
   obtain ⟨_,v0,x0,a0,a6⟩:=Ar.mail i p;have hz:dq (S.mailOf i):=by rw [bR a3];exact (T.out.sz _ (List.getElem_mem a3)).1
   have c0:=dp T.out i
   have W:=Lib.hid (Gv z (q i) (i+1) _ _ _ v0 (S.stayOf i) x0 wr a0 a6 (by omega) hz.2.2.1 hz.2.2.2.2.2 (fun x K=>by
    unfold aa.stayOf stay at K;obtain ⟨j,_,rfl⟩:=List.mem_map.1 K
    exact mP hz.2.2.2.2.1 j))
   have H:(gg (S.stayOf i)).length=(S.stayOf i).length:=by simp [gg]
   have c9:Hid (S.toldOf i=⟨i+1,(S.mailOf i).time,(S.mailOf i).frm,gg (S.stayOf i),(S.mailOf i).body⟩):=Lib.hid rfl;obtain ⟨n,en⟩:∃n,(S.stayOf i).length=n:=⟨_,rfl⟩;rw [en] at W c0 H;have a7:w.heap.size≤wr.heap.size:=HB.out.size;clear Ar a0 a6 hc a1 HE en;go_wp2_with fail
   refine W.out.mono ?_;rintro e w4 ⟨g,rfl,d2,a5,r⟩;have R4:=HR.out.keep r;have K4:=Lib.hid (ax HK.out fun g Y e _=>ae r e);have B4:=Lib.hid (HB.out.trans (r.mono a7))
   have HG:Hid (∀x∈d,x.2 < g):=Lib.hid (fun x K=>by
    have:=(HR.out.tos x K).lt x.2 rfl
    omega)
   have O4:=Lib.hid (a5.mono a7);have d3:wr.heap.size≤w4.heap.size:=r.size;have G:=R4.row;have a9:=Lib.hid R4;simp only [aV];clear r a5 R4 b6 b4 f
   go_wp2_with (first
    | (at_builtin;refine wpList_append_own _ rfl _ _ 35 rfl w.heap.size 45 im _ 5 72 Tryz.underlying35 a2 B C E rfl (by decide) _ _ _ rfl (G.alloc _) ⟨w4.heap.size,0,none⟩ 1 1 [.int .i64 ((i+1:Nat):Int),.int .i64 (S.mailOf i).time,.string (bs (S.mailOf i).frm),.slice (some ⟨g,0,none⟩) n n,.string (bs (S.mailOf i).body)] rfl rfl ?c1 ?c2 ?c3 ?c4 ?c5 ?_)
    | fail)
   case c1=>exact World.news_of_block (cs:=#[.int .i64 ((i+1:Nat):Int),.int .i64 (S.mailOf i).time,.string (bs (S.mailOf i).frm),.slice (some ⟨g,0,none⟩) n n,.string (bs (S.mailOf i).body)]) (t:=45) (fr:=(0,0)) (heap_alloc_new w4 _)
   case c2=>intro u hu;simp at hu;rcases hu with rfl | rfl | rfl | rfl | rfl <;> rfl
   case c3=>unfold maxLen;omega
   case c4=>omega
   case c5=>simp;omega
   ·intro v' d5 A l _
    have eV:(gI (S.toldOf i,g)).2= .slice (some ⟨g,0,none⟩) n n:=by
     show Value.slice (some ⟨g,0,none⟩) (gg (S.stayOf i)).length (gg (S.stayOf i)).length=_;rw [H]
    have b0:=Lib.hid (po K4.out G l (by decide));have D:=Lib.hid (a9.out.plus (m:=S.toldOf i) (g:=g) HG.out (by rw [eV];show w4.ownsRow _ _ _ _ (gg (S.stayOf i)).length _;rw [H];exact O4.out) B4.out (by omega) (by rw [eV,b8];exact A) l);clear A l G;go_wp2_with fail
    exact ⟨⟨k+1,d++[(S.toldOf i,g)],by omega,by go_num,by simp;omega,Lib.hid (by rw [Q.out];simp),Lib.hid D.out.1,b0,Lib.hid D.out.2⟩,by simp [intOf];omega⟩
  ·have b5:k=S.live.length:=by omega
   subst b5;rw [List.take_length,←HQ.out] at HE;go_wp2_with fail
   go_ret;exact ⟨_,d,rfl,HR.out,HE.out,HB.out⟩
def xu (k:Nat):Prop:=k=0∨k=6∨k=2∨k=3
structure iu (w:World):Prop where
 len:∃n,w.cell? ⟨0,0,none⟩=some (.int .i64 n)
 pow:rR w
 utf:Lib.Utf8Tabs 2 3 w
theorem iu.lt {w:World} (h:iu w) {k:Nat} (a:xu k):k < w.heap.size:=by
 obtain ⟨n,b⟩:=h.len
 rcases a with rfl | rfl | rfl | rfl
 ·exact aA b
 ·exact h.pow.lt
 ·exact aA (h.utf.1 0 (by decide))
 ·exact aA (h.utf.2 0 (by decide)).1
theorem iu.chg {B:Nat→Prop} {w w':World} (h:iu w) (b:aF B w w') (a:∀k,xu k→¬B k):iu w':=by
 obtain ⟨n,d⟩:=h.len;have e:=h.lt (k:=0) (.inl rfl);refine ⟨⟨n,?_⟩,h.pow.chg b (a _ (.inr (.inl rfl))),Au h.utf b (a _ (.inr (.inr (.inl rfl)))) (a _ (.inr (.inr (.inr rfl))))⟩;rw [←d];exact World.cell?_of_block (b.block _ e (a _ (.inl rfl)))
theorem iu.below {w w':World} (h:iu w) (a:Below w.heap.size w w'):iu w':=h.chg (aF.below a:aF (fun _=>False) w w') (fun _ _ e=>e)
structure dG [Kn] (E:Nat→Prop) (pp pb mb:Nat) (c:bT) (w:World) (q:Nat→Nat) (vr:Value) (S:aa) (recs:List UInt8) (vs:Value) (ps:List Value):Prop where
 set:∃vD vN vU vW,jW w pp c vD vN vU vW∧∀k,(vD.ownBlock=some k∨vN.ownBlock=some k∨vU.ownBlock=some k∨vW.ownBlock=some k)→E k∧k≠pp
 glo:iu w
 egl:∀k,xu k→E k
 gpp:¬xu pp
 epp:E pp
 lt:∀k,E k→k < w.heap.size
 blk:∃C:Array Value,w.heap[pp]? =some (.cells C 88 (0,0))∧C.size=12∧C[9]? =some (.pointer (some ⟨pb,0,none⟩))∧C[10]? =some vs∧C[11]? =some Kn.tk
 bag:eJ w pb mb q vr S recs
 row:w.ownsRow 0 91 1 vs ps.length ps
 eb:∀k,E k→¬an w pb mb q vr S k
 sd:∀g,vs.ownBlock=some g→¬E g∧¬an w pb mb q vr S g
section
variable {E B:Nat→Prop} {pp pb mb:Nat} {c:bT} {w w':World} {q:Nat→Nat} {vr:Value} {S:aa} {recs:List UInt8} {vs:Value} {ps:List Value}
theorem dG.env [Kn] (h:dG E pp pb mb c w q vr S recs vs ps):fO E w pp c:=by
 obtain ⟨d,f,g,i,a,b⟩:=h.set;exact ⟨⟨d,f,g,i,a,fun k e=>(b k e).1⟩,h.epp,h.glo.len,h.egl _ (.inl rfl),h.glo.pow,h.egl _ (.inr (.inl rfl)),h.glo.utf,h.egl _ (.inr (.inr (.inl rfl))),h.egl _ (.inr (.inr (.inr rfl))),h.lt⟩
theorem jW.chg {f h i j:Value} (a:jW w pp c f h i j) (b:aF B w w') (d:∀k,(f.ownBlock=some k∨h.ownBlock=some k∨i.ownBlock=some k∨j.ownBlock=some k)→¬B k) (n:¬B pp):jW w' pp c f h i j:=by
 obtain ⟨D,l,m⟩:=a.blk;exact ⟨⟨D,b.some_ l n,m⟩,⟨a.rows.1.chg b (fun g e=>d g (.inl e)),a.rows.2.1.chg b (fun g e=>d g (.inr (.inl e))),a.rows.2.2.1.chg b (fun g e=>d g (.inr (.inr (.inl e)))),a.rows.2.2.2.chg b (fun g e=>d g (.inr (.inr (.inr e))))⟩,a.may⟩
theorem dG.chg [Kn] (h:dG E pp pb mb c w q vr S recs vs ps) (a:aF B w w') (b:∀k,E k→¬B k) (n:∀k,an w pb mb q vr S k→¬B k) (o:∀k,vs.ownBlock=some k→¬B k):dG E pp pb mb c w' q vr S recs vs ps∧∀k,an w' pb mb q vr S k→an w pb mb q vr S k:=by
 obtain ⟨p,r,s,t,j,f⟩:=h.set;obtain ⟨C,l,m⟩:=h.blk;obtain ⟨i,d⟩:=h.bag.chg a n;exact ⟨⟨⟨p,r,s,t,j.chg a (fun k e=>b k (f k e).1) (b pp h.epp),f⟩,h.glo.chg a (fun k e=>b k (h.egl k e)),h.egl,h.gpp,h.epp,fun k e=>Nat.lt_of_lt_of_le (h.lt k e) a.size,⟨C,a.some_ l (b pp h.epp),m⟩,i,br h.row a o,fun k e x=>h.eb k e (d k x),fun g e=>⟨(h.sd g e).1,fun x=>(h.sd g e).2 (d g x)⟩⟩,d⟩
theorem dG.below [Kn] (h:dG E pp pb mb c w q vr S recs vs ps) (a:Below w.heap.size w w'):dG E pp pb mb c w' q vr S recs vs ps∧∀k,an w' pb mb q vr S k→an w pb mb q vr S k:=
 h.chg (aF.below a:aF (fun _=>False) w w') (fun _ _ e=>e) (fun _ _ e=>e) (fun _ _ e=>e)
theorem dG.cell9 [Kn] (h:dG E pp pb mb c w q vr S recs vs ps):w.cell? ⟨pp,9,none⟩=some (.pointer (some ⟨pb,0,none⟩)):=by
 obtain ⟨C,a,_,b,_⟩:=h.blk;rw [Lib.cell_of_heap a];exact b
theorem dG.cell10 [Kn] (h:dG E pp pb mb c w q vr S recs vs ps):w.cell? ⟨pp,10,none⟩=some vs:=by
 obtain ⟨C,a,_,_,b,_⟩:=h.blk;rw [Lib.cell_of_heap a];exact b
theorem dG.cell11 [Kn] (h:dG E pp pb mb c w q vr S recs vs ps):w.cell? ⟨pp,11,none⟩=some Kn.tk:=by
 obtain ⟨C,a,_,_,_,b⟩:=h.blk;rw [Lib.cell_of_heap a];exact b
theorem dG.froz [Kn] (h:dG E pp pb mb c w q vr S recs vs ps) (j:Nat):w.frozen? ⟨pp,j,none⟩=false:=by
 obtain ⟨C,a,_⟩:=h.blk;exact Lib.frozen_of_heap a j
theorem dG.slt [Kn] (h:dG E pp pb mb c w q vr S recs vs ps) {g:Nat} (a:vs.ownBlock=some g):g < w.heap.size:=(j6 h.row a).2
end
theorem yC [Kn] {pb mb:Nat} {q:Nat→Nat} {vr:Value} {S:aa} {recs:List UInt8} {w:World} (h:eJ w pb mb q vr S recs):
  Calls Tryz.prog 41 #[.pointer (some ⟨pb,0,none⟩)] w fun e w'=>e= .returned (.string (bs recs))∧w=w':=by
 have b:w.cell? ⟨pb,0,none⟩=some vr:=by rw [Lib.cell_of_heap h.inn.bag];rfl
 have a:=h.row.string;clear h;go_enter Tryz.func41,Tryz.ntmps41;go_wp2_with fail
 go_ret;exact ⟨rfl,rfl⟩
theorem Fz [Kn] {E:Nat→Prop} {pp pb mb:Nat} {c:bT} {w:World} {q:Nat→Nat} {vr:Value} {S:aa} {recs:List UInt8} {vs:Value} {ps:List Value} (h:dG E pp pb mb c w q vr S recs vs ps):
  Calls Tryz.prog 17 #[.pointer (some ⟨pp,0,none⟩)] w fun e w'=>e= .returned (.tuple #[.string (bs recs),.int .i64 0])∧w=w':=by
 have b:=h.cell9;have a:=Lib.hid (yC h.bag);clear h;go_enter Tryz.func17,Tryz.ntmps17;go_wp2_with fail
 refine a.out.mono ?_;rintro e w' ⟨rfl,rfl⟩;go_wp2_with fail
 go_ret2
 exact ⟨rfl,rfl⟩
theorem Ef [Kn] {E:Nat→Prop} {pp pb mb:Nat} {c:bT} {w:World} {q:Nat→Nat} {vr:Value} {S:aa} {recs:List UInt8} {vs:Value} {ps:List Value} (h:dG E pp pb mb c w q vr S recs vs ps) (b:S.Ok) (n:S.items.length≤1048576):
  Calls Tryz.prog 10 #[.pointer (some ⟨pp,0,none⟩)] w fun e w'=>∃v a,e= .returned (.tuple #[v,.int .i64 0])∧je w.heap.size w' v a∧a.map (·.1)=ji S.items∧Below w.heap.size w w':=by
 have m:=h.cell9;have k:=Lib.hid (wN 0 pb mb q vr _ w h.bag.inn b (by omega));clear h b;go_enter Tryz.func10,Tryz.ntmps10;go_wp2_with fail
 refine k.out.mono ?_;rintro e w' ⟨v,a,rfl,g,f,d⟩;have l:=Lib.hid g;have j:=Lib.hid f;have i:=Lib.hid d;clear g f d;go_wp2_with fail
 go_ret2
 exact ⟨v,a,rfl,l.out,j.out,i.out⟩
end Go.Proofs.YtofpegbpgkkgkaaGreatDoor
