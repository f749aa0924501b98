import Derived.Test.YtofpegbpgkkgkaaGreatDoorS13
import Derived.Test.YtofpegbpgkkgkaaGreatDoorS09
namespace Go.Proofs.YtofpegbpgkkgkaaGreatDoor
set_option maxHeartbeats 8000000
set_option maxRecDepth 1000000
open Go.RowKit
open Go.RowKit Go.Maps Go.Shelf
open Go.WideElems (Fit rd rg)
def kL:Value→Option (DataW Unit×List MemPlace):=fun _=>some (.lit (.bool true),[])
theorem GI {P:Program} {k:TypeId} (b:P.underlying k=some (.int .i64)) (q:Nat→Nat) (i:Nat) (c:i < 4294967296):rd P k kL (nM q i)=some (.int .i64 ((i:Int)+1),.lit (.bool true)):=by
 unfold rd nM;rw [keyOf_int_mk b (a:=(i:Int)+1) (WalkArith.wf_i64 (by omega))];rfl
theorem GJ {P:Program} {k:TypeId} (j:P.underlying k=some (.int .i64)) {q:Nat→Nat} {l:List Nat} {c:Nat} (g:∀i∈l,i < c) (h:l.Nodup) (m:c≤1048576) (n:l.length≤c):Fit P k kL (cO q l) c:=by
 refine ⟨by simp [cO];unfold maxLen;omega,(MapKept.stamped_iff _ _).2 ⟨fun x d=>?_,?_,?_⟩,fun x d=>?_⟩
 ·rw [cT] at d;obtain ⟨i,f,rfl⟩:=List.mem_map.1 d;exact g i f
 ·rw [cT,List.map_map];have:((fun x:MapEntry=>x.born) ∘ nM q)=id:=rfl;rw [this,List.map_id];exact h
 ·rw [cT,List.pairwise_map];refine h.imp fun {a b} hne e=>hne ?_;exact Ef q e
 ·rw [cT] at d;obtain ⟨i,f,rfl⟩:=List.mem_map.1 d;exact ⟨_,GI j q i (by have:=g i f;omega)⟩
def iK (l:List Nat):List Int:=l.map fun (i:Nat)=>(i:Int)+1
theorem EU {P:Program} {k:TypeId} (c:P.underlying k=some (.int .i64)) {q:Nat→Nat} {l:List Nat} (d:∀i∈l,i < 4294967296):(intKeys (DataW.map (((cO q l).toList.map (rg P k kL)).foldr DataW.insert []))).Perm (iK l):=by
 have a:(cO q l).toList.map (rg P k kL)=l.map fun (i:Nat)=>(Lit.int .i64 ((i:Int)+1),(.lit (.bool true):DataW Unit)):=by
  rw [cT,List.map_map];exact List.map_congr_left fun i b=>by show rg P k kL (nM q i)=_;unfold rg;rw [GI c q i (d i b)];rfl
 rw [a];show ((List.foldr DataW.insert [] _).map fun p=>Go.intOf p.1).Perm _;refine ((WideShapes.sorted_perm _).map _).trans ?_;rw [List.map_map];exact List.Perm.refl _
theorem AV {l:List Nat} (e:l.Pairwise (·< ·)) {c:List Int} (h:c.Perm (iK l)):c.mergeSort (fun x y=>decide (x≤y))=iK l:=by
 have d:c.mergeSort leI=(iK l).mergeSort leI:=mergeSort_of_perm_i h;refine d.trans (List.mergeSort_of_pairwise ?_);unfold iK;rw [List.pairwise_map];exact e.imp fun {a b} hab=>by simp only [leI,decide_eq_true_eq];omega
theorem oz (S:aa):S.live.Pairwise (·< ·):=(List.pairwise_lt_range).filter _
theorem uG (S:aa):S.live.length≤S.items.length:=by
 unfold aa.live;have:=List.length_filter_le (fun i=> !(S.stayOf i).isEmpty) (List.range S.items.length)
 rwa [List.length_range] at this
theorem FT (m:Nat):AnyZI.SortsIn Tryz.prog Tryz.sortedA_ren Fence.wide m:=
 ⟨fun c e a g W f b d=>callsIn_wide.2 (AnyM.slices_Sort_int Tryz.sortA c e a g W f b d),
 fun p a W=>callsIn_wide.2 (AnyM.slices_Sort_int_none Tryz.sortA p a W)⟩
theorem AU (a:Option Nat) (W:World):Calls Tryz.prog 59 #[.map a] W fun e b=>e= .returned (.func (.func 95) #[] #[.pointer (some ⟨W.heap.size,0,none⟩)])∧b=W.alloc (.cells #[.map a] 115):=
 (callsIn_wide (n:=5)).1 (AnyZI.keys_in Tryz.keysA Fence.wide 5 trivial rfl a W)
theorem nF (w:World) (d c:Nat) (q:Nat→Nat) (l:List Nat) (h:gh w d q l c) (x:∀i∈l,i < c) (z:l.Pairwise (·< ·)) (C:c≤1048576) (A:l.length≤c):
  Calls Tryz.prog 58 #[.func (.func 95) #[] #[.pointer (some ⟨w.heap.size,0,none⟩)]] (w.alloc (.cells #[.map (some d)] 115)) fun e r=>∃v,e= .returned v∧r.ownsRow (w.heap.size+1) 3 1 v l.length ((iK l).map fun (i:Int)=> .int .i64 i)∧Below (w.heap.size+1) (w.alloc (.cells #[.map (some d)] 115)) r:=by
 have E:l.Nodup:=z.imp fun {a b} hab=>by omega
 have p:d < w.heap.size:=ah h
 have j:(w.alloc (.cells #[.map (some d)] 115)).ownsMap Tryz.prog 3 kL d c (.map (((cO q l).toList.map (WideElems.rg Tryz.prog 3 kL)).foldr DataW.insert [])):=
  ⟨cO q l,c,(Below.heap_alloc _ _ d p).trans h,GJ Tryz.underlying3 x E C A,by simp [cO];exact A,rfl⟩
 have o:Maps.size (DataW.map (((cO q l).toList.map (WideElems.rg Tryz.prog 3 kL)).foldr DataW.insert []))=l.length:=by
  show (List.foldr DataW.insert [] _).length=_;rw [length_sorted,List.length_map,cT,List.length_map]
 have m:=AnyZI.keys_gives (ρ:=Tryz.keysA_ren) {Tryz.keysA with} Fence.wide 2 trivial rfl (by omega) w.heap.size d c _ (w.alloc (.cells #[.map (some d)] 115)) (by simp) (by simp) j;have s:=AnyZI.sorted_in Tryz.sortedA Fence.wide 5 trivial trivial trivial trivial rfl (by omega) (FT _) (enters_of Tryz.func94 (by kernel_rfl) rfl) 95 #[.pointer (some ⟨w.heap.size,0,none⟩)] trivial (enters_of Tryz.func95 (by kernel_rfl) rfl) _ _ (by rw [o];unfold maxLen;omega) (by rw [o];omega) _ m;change CallsIn _ _ Tryz.prog 58 _ _ _ at s;refine ((callsIn_wide (n:=5)).1 s).mono ?_;rintro e r ⟨v,F,rfl,B,f,y,u⟩;have k:=B.trans (EU (q:=q) Tryz.underlying3 (fun i D=>by have:=x i D;omega));have g:F.length=l.length:=by rw [k.length_eq];simp [iK]
 have t:(w.alloc (.cells #[.map (some d)] 115)).heap.size=w.heap.size+1:=by simp
 rw [t,g,AV z k] at f;rw [t] at u;exact ⟨v,rfl,f,u⟩
def aa.toldOf (S:aa) (i:Nat):aX:=⟨i+1,(S.mailOf i).time,(S.mailOf i).frm,gy (S.stayOf i),(S.mailOf i).body⟩
theorem Hz {S:aa} (a:S.Ok) {i:Nat} (h:i < S.items.length):S.items[i].now=S.toldOf i:=by
 unfold fH.now aa.toldOf;rw [cd h,gT h,a.id i h]
 congr 1
 unfold gy stay;rw [List.map_map];rfl
theorem Bv {S:aa} (a:S.Ok):gA S.items=S.live.map S.toldOf:=by
 have b:S.items.map fH.now=(List.range S.items.length).map S.toldOf:=by
  apply List.ext_getElem (by simp);intro i c d;rw [List.getElem_map,List.getElem_map,List.getElem_range];exact Hz a (by simpa using c)
 unfold gA aa.live;rw [b,List.filter_map]
 congr 1
 apply List.filter_congr;intro i e;show (!(S.toldOf i).tos.isEmpty)=_;unfold aa.toldOf gy;simp
def gW (x:aX×Nat):aX×Value:=(x.1,.slice (some ⟨x.2,0,none⟩) x.1.tos.length x.1.tos.length)
structure iT (s:Nat) (w:World) (v:Value) (rows:List (aX×Nat)):Prop where
 row:w.ownsRow s 45 5 v rows.length (fJ (rows.map gW))
 tos:∀x∈rows,w.ownsRow s 9 1 (gW x).2 x.1.tos.length (aB x.1.tos)
 apart:(rows.map (·.2)).Nodup
theorem iT.keep {s:Nat} {w c:World} {v:Value} {a:List (aX×Nat)} (h:iT s w v a) (b:Below w.heap.size w c):iT s c v a:=
 ⟨aA h.row fun _g _cur e _=>ae b e,fun x d=>aA (h.tos x d) fun _g _cur e _=>ae b e,h.apart⟩
theorem iT.mails {s:Nat} {w:World} {v:Value} {a:List (aX×Nat)} (h:iT s w v a):lE s w v (a.map gW):=
 ⟨by rw [List.length_map];exact h.row,fun x b=>by
  obtain ⟨y,c,rfl⟩:=List.mem_map.1 b
  exact h.tos y c⟩
theorem iT.plus {s g:Nat} {q l e:World} {v v':Value} {d:List (aX×Nat)} {m:aX} {o:Obj} (h:iT s l v d) (u:∀x∈d,x.2 < g) (t:l.ownsRow s 9 1 (gW (m,g)).2 m.tos.length (aB m.tos)) (r:Below s q l) (w:s≤l.heap.size)
  (j:e.ownsRow s 45 5 v' (d.length+1) (fJ (d.map gW)++(aY m (gW (m,g)).2).toList)) (i:(l.alloc o).grownBy e v.ownBlock):iT s e v' (d++[(m,g)])∧Below s q e:=by
 obtain ⟨⟨a,b⟩,c⟩:=FG (rows:=d.map gW) (m:=m) (vt:=(gW (m,g)).2) (fun x k=>by
  obtain ⟨y,n,rfl⟩:=List.mem_map.1 k
  exact h.tos y n) (by rw [List.length_map];exact h.row) t r w (by rw [List.length_map];exact j) i
 refine ⟨⟨?_,fun x k=>?_,?_⟩,c⟩
 ·rw [List.map_append];have:e.ownsRow s 45 5 v' (d.length+1) (fJ (d.map gW++[(m,(gW (m,g)).2)])):=by simpa using a
  rw [List.length_append];exact this
 ·rcases List.mem_append.1 k with f | f
  ·exact b (gW x) (List.mem_append.2 (.inl (List.mem_map.2 ⟨x,f,rfl⟩)))
  ·simp only [List.mem_singleton] at f;subst f;exact b (gW (m,g)) (List.mem_append.2 (.inr (by simp;rfl)))
 ·rw [List.map_append,List.nodup_append];refine ⟨h.apart,by simp,fun x k y n=>?_⟩
  obtain ⟨z,p,rfl⟩:=List.mem_map.1 k;simp only [List.map_cons,List.map_nil,List.mem_singleton] at n;have:=u z p;omega
theorem ql {l c:World} {s n m t k:Nat} {e r:TypeId} {u v:Value} {w B:List Value} {o:Obj} (h:l.ownsRow s e t u n w) (A:l.ownsRow s r k v m B) (a:(l.alloc o).grownBy c v.ownBlock) (j:e≠r):c.ownsRow s e t u n w:=by
 refine (h.alloc o).kept a ?_
 rcases h.2 with ⟨d,_⟩ | ⟨g,x,y,d,_,z,_⟩
 ·subst d;exact .inl rfl
 ·refine .inr fun b=>?_
  rcases A.2 with ⟨f,_⟩ | ⟨C,p,q,f,_,i,_⟩
  ·rw [f,d] at b;cases b
  ·rw [f,d] at b;injection b with b;exact DQ z i j b
theorem Jm {P:Program} {k e t d:TypeId} {w:World} {b c:Nat} {q:Nat→Nat} {l:List Nat} (a:P.underlying t=some (.map k e)) (h:gh w b q l c):(Builtin.len_ #[t] d #[.map (some b)]).run P w= .ok (.int .i64 l.length) w:=by
 simp [Builtin.len_,run_underlying a,MapKept.run_getObj_map h,cO,Result.andThen,goInt]
theorem yC (z pb F:Nat) (q:Nat→Nat) (vr:Value) (S:aa) (w:World) (h:bh z w pb F q vr S) (J:S.Ok) (hn:S.items.length≤1048576):
  Calls Tryz.prog 35 #[.pointer (some ⟨pb,0,none⟩)] w fun e L=>∃v d,e= .returned v∧iT w.heap.size L v d∧d.map (·.1)=gA S.items∧Below w.heap.size w L:=by
 have c3:w.cell? ⟨pb,3,none⟩=some (.map (some F)):=by rw [Lib.cell_of_heap h.bag];rfl
 have a4:=uG S;have b7:∀ty,(Builtin.len_ #[115] ty #[.map (some F)]).run Tryz.prog w= .ok (.int .i64 S.live.length) w:=fun ty=>Jm Tryz.underlying115 h.map;obtain ⟨im,a2,B,C,E⟩:=info_parts xL;have HH:=Lib.hid h;have HQ:=Lib.hid (Bv J);have T:=Lib.hid J;have c8:=h.pblt;clear h J;go_enter Tryz.func35,Tryz.ntmps35
 go_wp2_with (first
  | (at_make;refine wpList_make_own _ rfl _ _ 35 rfl w.heap.size 45 im _ 5 Tryz.underlying35 a2 B C .i64 .i64 _ S.live.length rfl rfl rfl ?b2 ?b3 (Nat.le_refl _) ?_;rotate_left 2;intro M s o;have N:=Lib.hid ((Below.refl w.heap.size w).grown o (Nat.le_refl _) (fun j hj=>by cases hj));have A1:=HH.out.keep N.out;have b1:M.cell? ⟨pb,3,none⟩=some (.map (some F)):=(by rw [Lib.cell_of_heap A1.bag];rfl);have O:=Lib.hid A1;have U:=Lib.hid s;clear A1 s o)
  | fail)
 case b2=>rw [E];omega
 case b3=>unfold maxLen;omega
 refine (AU (some F) M).mono ?_;rintro e w2 ⟨rfl,a8⟩;have X:=Lib.hid a8;clear a8 b1 b7 c3;go_wp2_with fail
 rw [X.out];refine (nF M F S.items.length q S.live O.out.map (fun i hi=>bq hi) (oz S) hn a4).mono ?_;rintro e w3 ⟨vk,rfl,I,Z⟩;have B3:Hid (Below M.heap.size M w3):=Lib.hid (((Below.refl _ M).alloc (Nat.le_refl _) _).trans (Z.mono (by omega)));have V:Hid (iT w.heap.size w3 (.slice (some ⟨w.heap.size,0,none⟩) 0 S.live.length) []):=Lib.hid ⟨aA U.out fun g Y e _=>ae B3.out e,fun x K=>by simp at K,by simp⟩
 have R:Hid (w3.ownsRow w.heap.size 3 1 vk S.live.length ((iK S.live).map fun (i:Int)=> .int .i64 i)):=Lib.hid (I.mono (by have:=N.out.size;omega));have P:Hid (Below w.heap.size w w3):=Lib.hid (N.out.trans (B3.out.mono N.out.size))
 obtain ⟨ak,ck,rfl⟩:∃a c,vk= .slice a S.live.length c:=by
  rcases I.2 with ⟨e,h0⟩ | ⟨g,d0,Y,e,_⟩
  ·exact ⟨_,_,by rw [h0];exact e⟩
  ·exact ⟨_,_,e⟩
 clear I Z X O N B3 U;go_wp2_with fail
 go_loopw [3,5,19] (fun v _ i L=>∃(k:Nat) (d:List (aX×Nat)),k≤S.live.length∧i= .int .i64 k∧d.length=k∧Hid (d.map (·.1)=(S.live.take k).map S.toldOf)∧Hid (iT w.heap.size L v d)∧Hid (L.ownsRow w.heap.size 3 1 (.slice ak S.live.length ck) S.live.length ((iK S.live).map fun (i:Int)=> .int .i64 i))∧Hid (Below w.heap.size w L)) (fun _ _ i _=>S.live.length - (intOf i).toNat)
 case atStart=>exact ⟨0,[],Nat.zero_le _,rfl,rfl,Lib.hid rfl,V,R,P⟩
 case round=>
  clear V R P;obtain ⟨k,d,hk,rfl,b8,HE,HR,HK,HB⟩:=hrel
  by_cases y:k < S.live.length
  ·have c7:(k:Int) < (S.live.length:Int):=by omega
   obtain ⟨a',c6,ea,hc⟩:=(aF HK.out).one;injection ea with ea1 _ ea3;subst ea1 ea3;obtain ⟨b,d4,rfl,d1,f⟩:=hc k y;have a1:((iK S.live).map fun (i:Int)=>Value.int .i64 i)[k]? =some (.int .i64 ((S.live[k]:Int)+1)):=by simp [iK,y]
   rw [a1] at f;have p:S.live[k]∈S.live:=List.getElem_mem y;have Q:Hid ((S.live.take (k+1)).map S.toldOf=d.map (·.1)++[S.toldOf S.live[k]]):=Lib.hid (by rw [List.take_succ_eq_append_getElem y,List.map_append,HE.out];rfl)
   generalize S.live[k]=i at f p Q
   have a3:=bq p;have Ar:=HH.out.keep HB.out;have b4:wr.cell? ⟨pb,3,none⟩=some (.map (some F)):=by rw [Lib.cell_of_heap Ar.bag];rfl
   have b6:(Instr.lookup 115 (.map (some F)) (.int .i64 ((i:Int)+1)) false).run Tryz.prog wr= .ok (.pointer (some ⟨q i,0,none⟩)) wr:=
    ig (t:=115) (e:=122) fU Tryz.underlying115 Ar.map (fun j hj=>by have:=bq hj;omega) i (by omega) p false
   obtain ⟨_,v0,x0,a0,a6⟩:=Ar.mail i p;have hz:dQ (S.mailOf i):=by rw [cd a3];exact (T.out.sz _ (List.getElem_mem a3)).1
   have c0:=dk T.out i
   have W:=Lib.hid (IJ z (q i) (i+1) _ _ _ v0 (S.stayOf i) x0 wr a0 a6 (by omega) hz.2.2.1 hz.2.2.2.2.2 (fun x K=>by
    unfold aa.stayOf stay at K;obtain ⟨j,_,rfl⟩:=List.mem_map.1 K
    exact nQ hz.2.2.2.2.1 j))
   have H:(gy (S.stayOf i)).length=(S.stayOf i).length:=by simp [gy]
   have c9:Hid (S.toldOf i=⟨i+1,(S.mailOf i).time,(S.mailOf i).frm,gy (S.stayOf i),(S.mailOf i).body⟩):=Lib.hid rfl;obtain ⟨n,en⟩:∃n,(S.stayOf i).length=n:=⟨_,rfl⟩;rw [en] at W c0 H;have a7:w.heap.size≤wr.heap.size:=HB.out.size;clear Ar a0 a6 hc a1 HE en;go_wp2_with fail
   refine W.out.mono ?_;rintro e w4 ⟨g,rfl,d2,a5,r⟩;have R4:=HR.out.keep r;have K4:=Lib.hid (aA HK.out fun g Y e _=>ae r e);have B4:=Lib.hid (HB.out.trans (r.mono a7))
   have HG:Hid (∀x∈d,x.2 < g):=Lib.hid (fun x K=>by
    have:=(HR.out.tos x K).lt x.2 rfl
    omega)
   have O4:=Lib.hid (a5.mono a7);have d3:wr.heap.size≤w4.heap.size:=r.size;have G:=R4.row;have a9:=Lib.hid R4;simp only [aY];clear r a5 R4 b6 b4 f
   go_wp2_with (first
    | (at_builtin;refine wpList_append_own _ rfl _ _ 35 rfl w.heap.size 45 im _ 5 72 Tryz.underlying35 a2 B C E rfl (by decide) _ _ _ rfl (G.alloc _) ⟨w4.heap.size,0,none⟩ 1 1 [.int .i64 ((i+1:Nat):Int),.int .i64 (S.mailOf i).time,.string (bs (S.mailOf i).frm),.slice (some ⟨g,0,none⟩) n n,.string (bs (S.mailOf i).body)] rfl rfl ?c1 ?c2 ?c3 ?c4 ?c5 ?_)
    | fail)
   case c1=>exact World.news_of_block (cs:=#[.int .i64 ((i+1:Nat):Int),.int .i64 (S.mailOf i).time,.string (bs (S.mailOf i).frm),.slice (some ⟨g,0,none⟩) n n,.string (bs (S.mailOf i).body)]) (t:=45) (fr:=(0,0)) (heap_alloc_new w4 _)
   case c2=>intro u hu;simp at hu;rcases hu with rfl | rfl | rfl | rfl | rfl <;> rfl
   case c3=>unfold maxLen;omega
   case c4=>omega
   case c5=>simp;omega
   ·intro v' d5 A l _
    have eV:(gW (S.toldOf i,g)).2= .slice (some ⟨g,0,none⟩) n n:=by
     show Value.slice (some ⟨g,0,none⟩) (gy (S.stayOf i)).length (gy (S.stayOf i)).length=_;rw [H]
    have b0:=Lib.hid (ql K4.out G l (by decide));have D:=Lib.hid (a9.out.plus (m:=S.toldOf i) (g:=g) HG.out (by rw [eV];show w4.ownsRow _ _ _ _ (gy (S.stayOf i)).length _;rw [H];exact O4.out) B4.out (by omega) (by rw [eV,b8];exact A) l);clear A l G;go_wp2_with fail
    exact ⟨⟨k+1,d++[(S.toldOf i,g)],by omega,by go_num,by simp;omega,Lib.hid (by rw [Q.out];simp),Lib.hid D.out.1,b0,Lib.hid D.out.2⟩,by simp [intOf];omega⟩
  ·have b5:k=S.live.length:=by omega
   subst b5;rw [List.take_length,←HQ.out] at HE;go_wp2_with fail
   go_ret;exact ⟨_,d,rfl,HR.out,HE.out,HB.out⟩
theorem xM (x:Int) (w:World):Calls Tryz.prog 172 #[.int .i64 x] w fun e a=>e= .returned (.bool false)∧w=a:=by
 have h:(x != x)=false:=by simp
 go_enter Tryz.func172,Tryz.ntmps172;go_wp2_with fail
 go_ret;exact ⟨by simp,rfl⟩
theorem Am (x y:Int) (w:World):Calls Tryz.prog 122 #[.int .i64 x,.int .i64 y] w fun e d=>(∃r:Int,e= .returned (.int .i64 r))∧w=d:=by
 have b:=Lib.hid (fun w=>xM x w);have c:=Lib.hid (fun w=>xM y w)
 by_cases f:x < y
 ·go_enter Tryz.func122,Tryz.ntmps122;go_wp2_with fail
  refine (b.out w).mono ?_;rintro e a ⟨rfl,rfl⟩;go_wp2_with fail
  refine (c.out w).mono ?_;rintro e a ⟨rfl,rfl⟩;go_wp2_with fail
  go_ret;exact ⟨⟨_,rfl⟩,rfl⟩
 ·by_cases g:y < x
  ·go_enter Tryz.func122,Tryz.ntmps122;go_wp2_with fail
   refine (b.out w).mono ?_;rintro e a ⟨rfl,rfl⟩;go_wp2_with fail
   refine (c.out w).mono ?_;rintro e a ⟨rfl,rfl⟩;go_wp2_with fail
   go_ret;exact ⟨⟨_,rfl⟩,rfl⟩
  ·go_enter Tryz.func122,Tryz.ntmps122;go_wp2_with fail
   refine (b.out w).mono ?_;rintro e a ⟨rfl,rfl⟩;go_wp2_with fail
   refine (c.out w).mono ?_;rintro e a ⟨rfl,rfl⟩;go_wp2_with fail
   go_ret;exact ⟨⟨_,rfl⟩,rfl⟩
theorem J2 (g:Nat) (w:World) (h:∀k,k < 2→∃r:Int,w.cell? ⟨g,k,none⟩=some (.int .i64 r)):
  Calls Tryz.prog 121 #[.slice (some ⟨g,0,none⟩) 2 2] w fun e d=>(∃r:Int,e= .returned (.int .i64 r))∧w=d:=by
 have l:=Lib.hid h;clear h;go_enter Tryz.func121,Tryz.ntmps121;go_wp2_with fail
 go_loopw [5,8] (fun _ i d=>∃k:Nat,k≤2∧i= .int .i64 k∧Hid (w=d)) (fun _ i _=>2 - (intOf i).toNat)
 case atStart=>exact ⟨0,by omega,rfl,Lib.hid (by trivial)⟩
 case round=>
  obtain ⟨k,n,rfl,f⟩:=hrel;have m:=f.out;subst m;clear f
  by_cases c:k < 2
  ·have j:(k:Int) < 2:=by omega
   obtain ⟨r,o⟩:=l.out k c
   by_cases a:r=0
   ·subst a;go_wp2_with fail
    exact ⟨⟨k+1,by omega,by go_num,Lib.hid (by trivial)⟩,by simp [intOf];omega⟩
   ·have a:(r != 0)=true:=by simpa using a
    go_wp2_with fail
    go_ret;exact ⟨⟨_,rfl⟩,rfl⟩
  ·have b:k=2:=by omega
   subst b;go_wp2_with fail
   go_ret;exact ⟨⟨_,rfl⟩,rfl⟩
theorem tY (d s g:Nat) (q:Nat→Nat) (A:Value) (S:aa) (i j:Nat) (w:World) (h:bh d w s g q A S) (I:S.items.length≤4294967295) (f:i∈S.live) (o:j∈S.live):
  Calls Tryz.prog 81 #[.pointer (some ⟨s,0,none⟩),.int .i64 ((i:Int)+1),.int .i64 ((j:Int)+1)] w fun e u=>(∃r:Int,e= .returned (.int .i64 r))∧Below w.heap.size w u:=by
 have n:=bq f;have p:=bq o;have c:∀i∈S.live,i < 4294967296:=fun i f=>by have:=bq f;omega
 obtain ⟨_,L,C,v,_⟩:=h.mail i f;obtain ⟨_,M,D,z,_⟩:=h.mail j o;have E:w.drew.cell? ⟨s,3,none⟩=some (.map (some g)):=by show w.cell? _=_;rw [Lib.cell_of_heap h.bag];rfl
 have F:w.drew.cell? ⟨q i,4,none⟩=some (.int .i64 C.1):=by show w.cell? _=_;rw [Lib.cell_of_heap v];rfl
 have G:w.drew.cell? ⟨q j,4,none⟩=some (.int .i64 D.1):=by show w.cell? _=_;rw [Lib.cell_of_heap z];rfl
 have J:(Instr.lookup 115 (.map (some g)) (.int .i64 ((i:Int)+1)) false).run Tryz.prog w.drew= .ok (.pointer (some ⟨q i,0,none⟩)) w.drew:=
  ig (t:=115) (e:=122) fU Tryz.underlying115 (w:=w.drew) h.map c i (by omega) f false
 have K:(Instr.lookup 115 (.map (some g)) (.int .i64 ((j:Int)+1)) false).run Tryz.prog w.drew= .ok (.pointer (some ⟨q j,0,none⟩)) w.drew:=
  ig (t:=115) (e:=122) fU Tryz.underlying115 (w:=w.drew) h.map c j (by omega) o false
 have l:=Lib.hid (fun (x y:Int) (W:World)=>Am x y W)
 have m:Hid (∀(a b:Int),Calls Tryz.prog 121 #[.slice (some ⟨w.heap.size,0,none⟩) 2 2] (w.drew.alloc (.cells #[.int .i64 a,.int .i64 b] 3)) fun e u=>(∃r:Int,e= .returned (.int .i64 r))∧w.drew.alloc (.cells #[.int .i64 a,.int .i64 b] 3)=u):=Lib.hid (fun a b=>J2 w.heap.size _ (fun k H=>by
  have e:=heap_alloc_new w.drew (.cells #[.int .i64 a,.int .i64 b] 3);have e:(w.drew.alloc (.cells #[.int .i64 a,.int .i64 b] 3)).heap[w.heap.size]? =some (.cells #[.int .i64 a,.int .i64 b] 3 (0,0)):=e;rw [Lib.cell_of_heap e];obtain rfl | rfl:k=0∨k=1:=by omega
  ·exact ⟨a,rfl⟩
  ·exact ⟨b,rfl⟩))
 clear h v z c n p;go_enter Tryz.func81,Tryz.ntmps81;go_wp2_with fail
 go_region_law (first
  | (go_simp;go_at_call 122;refine (l.out _ _ _).mono ?_;rintro e B ⟨⟨r,rfl⟩,rfl⟩;dsimp only)
  | (go_simp;go_at_call 121;refine (m.out _ _).mono ?_;rintro e B ⟨⟨r,rfl⟩,rfl⟩;dsimp only))
 all_goals
  go_wp2_with fail
  go_ret;exact ⟨⟨_,rfl⟩,((Below.refl _ w).drew).alloc (Nat.le_refl _) _⟩
theorem Bi (o I Q:Nat) (q:Nat→Nat) (R v:Value) (S:aa) (l:List Nat) (w:World) (h:bh o w I Q q R S) (hn:S.items.length≤1048576) (N:∀i∈l,i∈S.live) (h1:1≤l.length) (hz:l.length≤1048576) (A:bg w v l.length 1 ((iK l).map fun (i:Int)=> .int .i64 i)):
  Calls Tryz.prog 80 #[v,.func (.func 81) #[.pointer (some ⟨I,0,none⟩)] #[]] w fun e J=>∃i∈l,e= .returned (.int .i64 ((i:Int)+1))∧Below w.heap.size w J:=by
 have U:=Lib.hid A;have T:=Lib.hid h;have K:=Lib.hid N;obtain ⟨a,D,rfl,x⟩:=A.one;obtain ⟨V,y,rfl,_,f⟩:=x 0 (by omega);have c:∀(k:Nat) (F:k < l.length),((iK l).map fun (i:Int)=>Value.int .i64 i)[k]? =some (.int .i64 ((l[k]:Int)+1)):=fun k F=>by simp [iK,F]
 rw [c 0 (by omega)] at f;have C:=Lib.hid c;have n:l[0]∈l:=List.getElem_mem _
 generalize l[0]=i0 at f n
 have O:¬(l.length:Int) < 1:=by omega
 have M:l.length≤D:=A.cap;clear A h x N c;rw [Nat.add_zero] at f;go_enter Tryz.func80,Tryz.ntmps80;go_wp2_with fail
 go_loopw [5,6] (fun m i J=>∃(k j:Nat),1≤k∧k≤l.length∧i= .int .i64 k∧j∈l∧m= .int .i64 ((j:Int)+1)∧Hid (Below w.heap.size w J)) (fun _ i _=>l.length - (intOf i).toNat)
 case atStart=>exact ⟨1,i0,by omega,by omega,rfl,n,rfl,Lib.hid (Below.refl _ _)⟩
 case round=>
  obtain ⟨k,j,Y,F,rfl,E,rfl,t⟩:=hrel
  by_cases s:k < l.length
  ·have P:(k:Int) < (l.length:Int):=by omega
   obtain ⟨a',L,W,x⟩:=(U.out.below t.out).one;injection W with ea1 _ ea3;obtain ⟨b,Z,z,_,d⟩:=x k s;rw [←ea1] at z;injection z with z;injection z with e3 e4;subst e3 e4;rw [C.out k s] at d;have g:l[k]∈l:=List.getElem_mem s
   generalize l[k]=i at d g
   have H:w.heap.size≤wr.heap.size:=t.out.size;have B:=Lib.hid (tY o I Q q R S i j wr (T.out.keep t.out) (by omega) (K.out i g) (K.out j E));clear x ea1 ea3;go_wp2_with (first | (go_at_call 81;refine B.out.mono ?_;rintro e w2 ⟨⟨r,rfl⟩,p⟩;have X:w2.cell? ⟨V,y+k,none⟩=some (.int .i64 ((i:Int)+1)):=((p.cell (aC d)).trans d);have u:=Lib.hid (t.out.trans (p.mono H));clear p) | fail)
   all_goals
    first
    | exact ⟨⟨k+1,i,by omega,by omega,by go_num,g,rfl,u⟩,by simp [intOf];omega⟩
    | exact ⟨⟨k+1,j,by omega,by omega,by go_num,E,rfl,u⟩,by simp [intOf];omega⟩
  ·have G:k=l.length:=by omega
   subst G;go_wp2_with fail
   go_ret;exact ⟨j,E,rfl,t.out⟩
def cM (c n:Int):Int:=(if c < 0 then -(c+1) else c) % n
theorem dt (c:Int) {n:Int} (a:0 < n):0≤cM c n∧cM c n < n:=⟨Int.emod_nonneg _ (by omega),Int.emod_lt_of_pos _ a⟩
theorem bZ (c n:Int) (w:World) (p: -9223372036854775808≤c) (q:c≤9223372036854775807) (g:0 < n) (i:n≤9223372036854775807):
  Calls Tryz.prog 20 #[.int .i64 c,.int .i64 n] w fun e l=>e= .returned (.int .i64 (cM c n))∧w=l:=by
 have j:¬n=0:=by omega
 have d:∀x:Int,0≤x→x.tmod n=x % n:=fun x k=>Int.tmod_eq_emod_of_nonneg k
 by_cases f:c < 0
 ·have m:IntKind.i64.wrap (c+1)=c+1:=by rw [IntKind.wrap_i64];omega
  have o:IntKind.i64.wrap (-(c+1))= -(c+1):=by rw [IntKind.wrap_i64];omega
  have a:cM c n= -(c+1).tmod n:=by rw [←Int.neg_tmod];unfold cM;rw [if_pos f,d _ (by omega)]
  have b:=dt c g;rw [a] at b ⊢;have h:IntKind.i64.wrap (-(c+1).tmod n)= -(c+1).tmod n:=by rw [IntKind.wrap_i64];omega
  go_enter Tryz.func20,Tryz.ntmps20;go_wp2_with fail
  go_ret;exact ⟨rfl,rfl⟩
 ·have a:cM c n=c.tmod n:=by unfold cM;rw [if_neg f,d _ (by omega)]
  have b:=dt c g;rw [a] at b ⊢;have h:IntKind.i64.wrap (c.tmod n)=c.tmod n:=by rw [IntKind.wrap_i64];omega
  go_enter Tryz.func20,Tryz.ntmps20;go_wp2_with fail
  go_ret;exact ⟨rfl,rfl⟩
end Go.Proofs.YtofpegbpgkkgkaaGreatDoor
