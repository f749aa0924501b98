import Derived.Test.YtofpegbpgkkgkaaGreatDoorS16
import Derived.Test.YtofpegbpgkkgkaaGreatDoorS14
import Derived.Test.YtofpegbpgkkgkaaGreatDoorS13
namespace Go.Proofs.YtofpegbpgkkgkaaGreatDoor
set_option maxHeartbeats 8000000
set_option maxRecDepth 1000000
open Go.RowKit
def JN (c:bX) (s:bG) (name shown:List UInt8) (size:Nat) (z:Int) (s':bG) (ls':List (List UInt8)):Prop:=
 z=0∧s'=s∧ls'=[zm]∨z=1∧s'=s∧ls'=[G8]∨z=2∧s'={s with over:=true}∧ls'=[G7]∨z=3∧s'=s∧ls'=[jD]∨z=4∧s'={s with tx:=none}∧ls'=[jD]∨(∃t,s.tx=some t∧z=5∧s'={s with tx:=some {t with body:=some ⟨[],false,false⟩}}∧ls'=[zl])∨z=6∧s'={s with greeted:=true,tx:=none}∧ls'=[[50,53,48,32]++cQ c++[13,10]]∨z=7∧s'={s with greeted:=true,tx:=none}∧ls'=[[50,53,48,45]++cQ c++[13,10],[50,53,48,45,83,73,90,69,32]++Lib.itoa c.size++[13,10],[50,53,48,32,65,85,84,72,32,80,76,65,73,78,13,10]]∨z=8∧s'=(pW c s shown).1∧ls'=(pW c s shown).2∨z=9∧s'=(lV c s name (size:Int)).1∧ls'=(lV c s name (size:Int)).2∨∃t,s.tx=some t∧t.body=none∧name.length≤1048576∧t.tos.length≤10∧z=10∧s'={s with tx:=some {t with tos:=cY t.tos c.most (s.nets || s.known || dM c name) name}}∧ls'=[b9 t.tos c.most (s.nets || s.known || dM c name) name]
section
variable {A:Nat→Prop} {pp pb sb ch:Nat} {vw:Value} {w:World} {s:bG} {E:Nat→Prop} {c:bX} {ls:List (List UInt8)}
theorem cI.ready (h:cI w A pp pb sb ch vw ls s) (b:Nat):Calls Tryz.prog 141 #[.pointer (some ⟨sb,0,none⟩),.int .i64 (b:Int)] w fun e n=>e= .returned (.bool (fO s b))∧w=n:=by
 obtain ⟨m,f,d⟩:=h.ex;unfold fO
 cases i:s.tx with
 | none=>
  rw [i] at d;have d:m= .pointer none:=d;subst d;exact Dw sb ch _ ls b s.greeted w f rfl rfl
 | some t=>
  rw [i] at d;obtain ⟨l,u,r,rfl,q,g,p,o⟩:=d;obtain ⟨a,j,k⟩:=aE (aF g.row);exact Dx sb ch l t.tos.length j a _ ls b s.greeted w f rfl rfl ((g.cell 1).trans (by rw [k];rfl))
theorem cP.ret {d:World} {b:bG} {a:List (List UInt8)} {e:Ending} (h:cP A pp pb sb ch vw w b a e d):e= .returned (.tuple #[]):=h.1
theorem Dp (h:cI w A pp pb sb ch vw [] s) (t:gg E w pp c) (_hd:∀k,E k→¬A k) (d b:List UInt8) (f:Nat) (a:Nat) (r:fO s a=false):
  Calls Tryz.prog 102 #[.pointer (some ⟨sb,0,none⟩),.agg #[.int .i64 (a:Int),.string (bs d),.int .i64 (f:Int),.string (bs b)]] w (cP A pp pb sb ch vw w s [ni]):=by
 obtain ⟨g,j⟩:∃g:World,w.alloc (.cells #[.int .i64 (a:Int),.string (bs d),.int .i64 (f:Int),.string (bs b)] 179)=g:=⟨_,rfl⟩;have l:Below w.heap.size w g:=by rw [←j];exact (Below.refl _ _).alloc (Nat.le_refl _) _
 have i:g.heap[w.heap.size]? =some (.cells #[.int .i64 (a:Int),.string (bs d),.int .i64 (f:Int),.string (bs b)] 179 (0,0)):=by rw [←j];exact heap_alloc_new w _
 have z:g.cell? ⟨w.heap.size,0,none⟩=some (.int .i64 (a:Int)):=by rw [Lib.cell_of_heap i];rfl
 have B:g.cell? ⟨w.heap.size,1,none⟩=some (.string (bs d)):=by rw [Lib.cell_of_heap i];rfl
 have C:g.cell? ⟨w.heap.size,2,none⟩=some (.int .i64 (f:Int)):=by rw [Lib.cell_of_heap i];rfl
 have D:g.cell? ⟨w.heap.size,3,none⟩=some (.string (bs b)):=by rw [Lib.cell_of_heap i];rfl
 have o:=h.below l;have q:=t.below l;have n:Hid (Calls Tryz.prog 141 #[.pointer (some ⟨sb,0,none⟩),.int .i64 (a:Int)] g fun e y=>e= .returned (.bool false)∧g=y):=Lib.hid (by rw [←r];exact o.ready a);have x:=Lib.hid (o.told1 [53,48,51,32,102,105,114,115,116] (by decide));have m:=Lib.hid l;clear h t o q l i _hd;go_enter Tryz.func102,Tryz.ntmps102;go_wp2_with fail
 refine n.out.mono ?_;rintro e F ⟨rfl,rfl⟩;go_wp2_with fail
 refine x.out.mono ?_;rintro e G p;have r:=p.ret;subst r;have u:=Lib.hid p;clear p;go_wp2_with fail
 refine bodyPost_ret (v:= .tuple #[]) (by simp [results,Tryz.results102,go_sem]) rfl ?_;exact cP.from m.out u.out
theorem mx (h:cI w A pp pb sb ch vw [] s) (C:gg E w pp c) (v:∀k,E k→¬A k) (b a:List UInt8) (d:Nat) {j:Nat} {z:Int} {F:bG} {o:List (List UInt8)} (D:(j:Int)=z) (y:fO s j=true) (J:JN c s b a d z F o):
  Calls Tryz.prog 102 #[.pointer (some ⟨sb,0,none⟩),.agg #[.int .i64 z,.string (bs b),.int .i64 (d:Int),.string (bs a)]] w (cP A pp pb sb ch vw w F o):=by
 obtain ⟨l,n⟩:∃l:World,w.alloc (.cells #[.int .i64 z,.string (bs b),.int .i64 (d:Int),.string (bs a)] 179)=l:=⟨_,rfl⟩;have p:Below w.heap.size w l:=by rw [←n];exact (Below.refl _ _).alloc (Nat.le_refl _) _
 have m:l.heap[w.heap.size]? =some (.cells #[.int .i64 z,.string (bs b),.int .i64 (d:Int),.string (bs a)] 179 (0,0)):=by rw [←n];exact heap_alloc_new w _
 have L:l.cell? ⟨w.heap.size,0,none⟩=some (.int .i64 z):=by rw [Lib.cell_of_heap m];rfl
 have M:l.cell? ⟨w.heap.size,1,none⟩=some (.string (bs b)):=by rw [Lib.cell_of_heap m];rfl
 have N:l.cell? ⟨w.heap.size,2,none⟩=some (.int .i64 (d:Int)):=by rw [Lib.cell_of_heap m];rfl
 have O:l.cell? ⟨w.heap.size,3,none⟩=some (.string (bs a)):=by rw [Lib.cell_of_heap m];rfl
 have f:=h.below p;have g:=C.below p;have r:Hid (Calls Tryz.prog 141 #[.pointer (some ⟨sb,0,none⟩),.int .i64 z] l fun e K=>e= .returned (.bool true)∧l=K):=Lib.hid (by rw [←D,←y];exact f.ready j)
 rcases J with ⟨rfl,rfl,rfl⟩ | ⟨rfl,rfl,rfl⟩ | ⟨rfl,rfl,rfl⟩ | ⟨rfl,rfl,rfl⟩ | ⟨rfl,rfl,rfl⟩ | ⟨t,B,rfl,rfl,rfl⟩ | ⟨rfl,rfl,rfl⟩ | ⟨rfl,rfl,rfl⟩ | ⟨rfl,rfl,rfl⟩ | ⟨rfl,rfl,rfl⟩ | ⟨t,B,x,I,H,rfl,rfl,rfl⟩;have i:=Lib.hid (f.told1 [53,48,48,32,119,104,97,116] (by decide))
 rotate_left
 have i:=Lib.hid (f.told1 [53,48,49,32,104,111,119] (by decide))
 rotate_left
 have i:=Lib.hid (f.quit)
 rotate_left
 have i:=Lib.hid (f.told1 [50,53,48,32,111,107] (by decide))
 rotate_left
 have i:=Lib.hid (f.reset)
 rotate_left
 have i:=Lib.hid (f.data B)
 rotate_left
 have i:=Lib.hid (f.greet g v)
 rotate_left
 have i:=Lib.hid (f.more g v)
 rotate_left
 have i:=Lib.hid (f.know g a)
 rotate_left
 have i:=Lib.hid (f.mail g b (d:Int))
 rotate_left
 have i:=Lib.hid (f.rcpt g B x b I H)
 rotate_left
 all_goals
  have q:=Lib.hid p;clear h C f g p m v D;go_enter Tryz.func102,Tryz.ntmps102;go_wp2_with fail
  refine r.out.mono ?_;rintro e P ⟨rfl,rfl⟩;go_wp2_with fail
  refine i.out.mono ?_;rintro e Q u;have y:=u.ret;subst y;have G:=Lib.hid u;clear u;go_wp2_with fail
  refine bodyPost_end (results_none rfl _ _ _) rfl ?_;exact cP.from q.out G.out
end
open Go.RowKit Go.Maps Go.Shelf
theorem FT (m:Nat):AnyZI.SortsIn Tryz.prog Tryz.sortedA_ren Fence.wide m:=
 ⟨fun c e a g W f b d=>callsIn_wide.2 (AnyM.slices_Sort_int Tryz.sortA c e a g W f b d),
 fun p a W=>callsIn_wide.2 (AnyM.slices_Sort_int_none Tryz.sortA p a W)⟩
theorem AU (a:Option Nat) (W:World):Calls Tryz.prog 59 #[.map a] W fun e b=>e= .returned (.func (.func 95) #[] #[.pointer (some ⟨W.heap.size,0,none⟩)])∧b=W.alloc (.cells #[.map a] 115):=
 (callsIn_wide (n:=5)).1 (AnyZI.keys_in Tryz.keysA Fence.wide 5 trivial rfl a W)
theorem nF (w:World) (d c:Nat) (q:Nat→Nat) (l:List Nat) (h:gh w d q l c) (x:∀i∈l,i < c) (z:l.Pairwise (·< ·)) (C:c≤1048576) (A:l.length≤c):
  Calls Tryz.prog 58 #[.func (.func 95) #[] #[.pointer (some ⟨w.heap.size,0,none⟩)]] (w.alloc (.cells #[.map (some d)] 115)) fun e r=>∃v,e= .returned v∧r.ownsRow (w.heap.size+1) 3 1 v l.length ((iK l).map fun (i:Int)=> .int .i64 i)∧Below (w.heap.size+1) (w.alloc (.cells #[.map (some d)] 115)) r:=by
 have E:l.Nodup:=z.imp fun {a b} hab=>by omega
 have p:d < w.heap.size:=ah h
 have j:(w.alloc (.cells #[.map (some d)] 115)).ownsMap Tryz.prog 3 kL d c (.map (((cO q l).toList.map (WideElems.rg Tryz.prog 3 kL)).foldr DataW.insert [])):=
  ⟨cO q l,c,(Below.heap_alloc _ _ d p).trans h,GJ Tryz.underlying3 x E C A,by simp [cO];exact A,rfl⟩
 have o:Maps.size (DataW.map (((cO q l).toList.map (WideElems.rg Tryz.prog 3 kL)).foldr DataW.insert []))=l.length:=by
  show (List.foldr DataW.insert [] _).length=_;rw [length_sorted,List.length_map,cT,List.length_map]
 have m:=AnyZI.keys_gives (ρ:=Tryz.keysA_ren) {Tryz.keysA with} Fence.wide 2 trivial rfl (by omega) w.heap.size d c _ (w.alloc (.cells #[.map (some d)] 115)) (by simp) (by simp) j;have s:=AnyZI.sorted_in Tryz.sortedA Fence.wide 5 trivial trivial trivial trivial rfl (by omega) (FT _) (enters_of Tryz.func94 (by kernel_rfl) rfl) 95 #[.pointer (some ⟨w.heap.size,0,none⟩)] trivial (enters_of Tryz.func95 (by kernel_rfl) rfl) _ _ (by rw [o];unfold maxLen;omega) (by rw [o];omega) _ m;change CallsIn _ _ Tryz.prog 58 _ _ _ at s;refine ((callsIn_wide (n:=5)).1 s).mono ?_;rintro e r ⟨v,F,rfl,B,f,y,u⟩;have k:=B.trans (EU (q:=q) Tryz.underlying3 (fun i D=>by have:=x i D;omega));have g:F.length=l.length:=by rw [k.length_eq];simp [iK]
 have t:(w.alloc (.cells #[.map (some d)] 115)).heap.size=w.heap.size+1:=by simp
 rw [t,g,AV z k] at f;rw [t] at u;exact ⟨v,rfl,f,u⟩
def bp.toldOf (S:bp) (i:Nat):aX:=⟨i+1,(S.mailOf i).time,(S.mailOf i).frm,gy (S.stayOf i),(S.mailOf i).body⟩
theorem Hz {S:bp} (a:S.Ok) {i:Nat} (h:i < S.items.length):S.items[i].now=S.toldOf i:=by
 unfold fH.now bp.toldOf;rw [kd h,gT h,a.id i h]
 congr 1
 unfold gy stay;rw [List.map_map];rfl
theorem Bv {S:bp} (a:S.Ok):gA S.items=S.live.map S.toldOf:=by
 have b:S.items.map fH.now=(List.range S.items.length).map S.toldOf:=by
  apply List.ext_getElem (by simp);intro i c d;rw [List.getElem_map,List.getElem_map,List.getElem_range];exact Hz a (by simpa using c)
 unfold gA bp.live;rw [b,List.filter_map]
 congr 1
 apply List.filter_congr;intro i e;show (!(S.toldOf i).tos.isEmpty)=_;unfold bp.toldOf gy;simp
def gW (x:aX×Nat):aX×Value:=(x.1,.slice (some ⟨x.2,0,none⟩) x.1.tos.length x.1.tos.length)
structure iT (s:Nat) (w:World) (v:Value) (rows:List (aX×Nat)):Prop where
 row:w.ownsRow s 45 5 v rows.length (fJ (rows.map gW))
 tos:∀x∈rows,w.ownsRow s 9 1 (gW x).2 x.1.tos.length (cm x.1.tos)
 apart:(rows.map (·.2)).Nodup
theorem iT.keep {s:Nat} {w c:World} {v:Value} {a:List (aX×Nat)} (h:iT s w v a) (b:Below w.heap.size w c):iT s c v a:=
 ⟨ep h.row fun _g _cur e _=>ae b e,fun x d=>ep (h.tos x d) fun _g _cur e _=>ae b e,h.apart⟩
theorem iT.mails {s:Nat} {w:World} {v:Value} {a:List (aX×Nat)} (h:iT s w v a):lE s w v (a.map gW):=
 ⟨by rw [List.length_map];exact h.row,fun x b=>by
  obtain ⟨y,c,rfl⟩:=List.mem_map.1 b
  exact h.tos y c⟩
theorem iT.plus {s g:Nat} {q l e:World} {v v':Value} {d:List (aX×Nat)} {m:aX} {o:Obj} (h:iT s l v d) (u:∀x∈d,x.2 < g) (t:l.ownsRow s 9 1 (gW (m,g)).2 m.tos.length (cm m.tos)) (r:Below s q l) (w:s≤l.heap.size)
  (j:e.ownsRow s 45 5 v' (d.length+1) (fJ (d.map gW)++(aY m (gW (m,g)).2).toList)) (i:(l.alloc o).grownBy e v.ownBlock):iT s e v' (d++[(m,g)])∧Below s q e:=by
 obtain ⟨⟨a,b⟩,c⟩:=FG (rows:=d.map gW) (m:=m) (vt:=(gW (m,g)).2) (fun x k=>by
  obtain ⟨y,n,rfl⟩:=List.mem_map.1 k
  exact h.tos y n) (by rw [List.length_map];exact h.row) t r w (by rw [List.length_map];exact j) i
 refine ⟨⟨?_,fun x k=>?_,?_⟩,c⟩
 ·rw [List.map_append];have:e.ownsRow s 45 5 v' (d.length+1) (fJ (d.map gW++[(m,(gW (m,g)).2)])):=by simpa using a
  rw [List.length_append];exact this
 ·rcases List.mem_append.1 k with f | f
  ·exact b (gW x) (List.mem_append.2 (.inl (List.mem_map.2 ⟨x,f,rfl⟩)))
  ·simp only [List.mem_singleton] at f;subst f;exact b (gW (m,g)) (List.mem_append.2 (.inr (by simp;rfl)))
 ·rw [List.map_append,List.nodup_append];refine ⟨h.apart,by simp,fun x k y n=>?_⟩
  obtain ⟨z,p,rfl⟩:=List.mem_map.1 k;simp only [List.map_cons,List.map_nil,List.mem_singleton] at n;have:=u z p;omega
theorem ql {l c:World} {s n m t k:Nat} {e r:TypeId} {u v:Value} {w B:List Value} {o:Obj} (h:l.ownsRow s e t u n w) (A:l.ownsRow s r k v m B) (a:(l.alloc o).grownBy c v.ownBlock) (j:e≠r):c.ownsRow s e t u n w:=by
 refine (h.alloc o).kept a ?_
 rcases h.2 with ⟨d,_⟩ | ⟨g,x,y,d,_,z,_⟩
 ·subst d;exact .inl rfl
 ·refine .inr fun b=>?_
  rcases A.2 with ⟨f,_⟩ | ⟨C,p,q,f,_,i,_⟩
  ·rw [f,d] at b;cases b
  ·rw [f,d] at b;injection b with b;exact DQ z i j b
theorem Jm {P:Program} {k e t d:TypeId} {w:World} {b c:Nat} {q:Nat→Nat} {l:List Nat} (a:P.underlying t=some (.map k e)) (h:gh w b q l c):(Builtin.len_ #[t] d #[.map (some b)]).run P w= .ok (.int .i64 l.length) w:=by
 simp [Builtin.len_,run_underlying a,MapKept.run_getObj_map h,cO,Result.andThen,goInt]
theorem yC (z pb F:Nat) (q:Nat→Nat) (vr:Value) (S:bp) (w:World) (h:bh z w pb F q vr S) (J:S.Ok) (hn:S.items.length≤1048576):
  Calls Tryz.prog 35 #[.pointer (some ⟨pb,0,none⟩)] w fun e L=>∃v d,e= .returned v∧iT w.heap.size L v d∧d.map (·.1)=gA S.items∧Below w.heap.size w L:=by
 have c3:w.cell? ⟨pb,3,none⟩=some (.map (some F)):=by rw [Lib.cell_of_heap h.bag];rfl
 have a4:=uG S;have b7:∀ty,(Builtin.len_ #[115] ty #[.map (some F)]).run Tryz.prog w= .ok (.int .i64 S.live.length) w:=fun ty=>Jm Tryz.underlying115 h.map;obtain ⟨im,a2,B,C,E⟩:=info_parts xL;have HH:=Lib.hid h;have HQ:=Lib.hid (Bv J);have T:=Lib.hid J;have c8:=h.pblt;clear h J;go_enter Tryz.func35,Tryz.ntmps35
 go_wp2_with (first
  | (at_make;refine wpList_make_own _ rfl _ _ 35 rfl w.heap.size 45 im _ 5 Tryz.underlying35 a2 B C .i64 .i64 _ S.live.length rfl rfl rfl ?b2 ?b3 (Nat.le_refl _) ?_;rotate_left 2;intro M s o;have N:=Lib.hid ((Below.refl w.heap.size w).grown o (Nat.le_refl _) (fun j hj=>by cases hj));have A1:=HH.out.keep N.out;have b1:M.cell? ⟨pb,3,none⟩=some (.map (some F)):=(by rw [Lib.cell_of_heap A1.bag];rfl);have O:=Lib.hid A1;have U:=Lib.hid s;clear A1 s o)
  | fail)
 case b2=>rw [E];omega
 case b3=>unfold maxLen;omega
 refine (AU (some F) M).mono ?_;rintro e w2 ⟨rfl,a8⟩;have X:=Lib.hid a8;clear a8 b1 b7 c3;go_wp2_with fail
 rw [X.out];refine (nF M F S.items.length q S.live O.out.map (fun i hi=>bq hi) (oz S) hn a4).mono ?_;rintro e w3 ⟨vk,rfl,I,Z⟩;have B3:Hid (Below M.heap.size M w3):=Lib.hid (((Below.refl _ M).alloc (Nat.le_refl _) _).trans (Z.mono (by omega)));have V:Hid (iT w.heap.size w3 (.slice (some ⟨w.heap.size,0,none⟩) 0 S.live.length) []):=Lib.hid ⟨ep U.out fun g Y e _=>ae B3.out e,fun x K=>by simp at K,by simp⟩
 have R:Hid (w3.ownsRow w.heap.size 3 1 vk S.live.length ((iK S.live).map fun (i:Int)=> .int .i64 i)):=Lib.hid (I.mono (by have:=N.out.size;omega));have P:Hid (Below w.heap.size w w3):=Lib.hid (N.out.trans (B3.out.mono N.out.size))
 obtain ⟨ak,ck,rfl⟩:∃a c,vk= .slice a S.live.length c:=by
  rcases I.2 with ⟨e,h0⟩ | ⟨g,d0,Y,e,_⟩
  ·exact ⟨_,_,by rw [h0];exact e⟩
  ·exact ⟨_,_,e⟩
 clear I Z X O N B3 U;go_wp2_with fail
 go_loopw [3,5,19] (fun v _ i L=>∃(k:Nat) (d:List (aX×Nat)),k≤S.live.length∧i= .int .i64 k∧d.length=k∧Hid (d.map (·.1)=(S.live.take k).map S.toldOf)∧Hid (iT w.heap.size L v d)∧Hid (L.ownsRow w.heap.size 3 1 (.slice ak S.live.length ck) S.live.length ((iK S.live).map fun (i:Int)=> .int .i64 i))∧Hid (Below w.heap.size w L)) (fun _ _ i _=>S.live.length - (intOf i).toNat)
 case atStart=>exact ⟨0,[],Nat.zero_le _,rfl,rfl,Lib.hid rfl,V,R,P⟩
 case round=>
  clear V R P;obtain ⟨k,d,hk,rfl,b8,HE,HR,HK,HB⟩:=hrel
  by_cases y:k < S.live.length
  ·have c7:(k:Int) < (S.live.length:Int):=by omega
   obtain ⟨a',c6,ea,hc⟩:=(aF HK.out).one;injection ea with ea1 _ ea3;subst ea1 ea3;obtain ⟨b,d4,rfl,d1,f⟩:=hc k y;have a1:((iK S.live).map fun (i:Int)=>Value.int .i64 i)[k]? =some (.int .i64 ((S.live[k]:Int)+1)):=by simp [iK,y]
   rw [a1] at f;have p:S.live[k]∈S.live:=List.getElem_mem y;have Q:Hid ((S.live.take (k+1)).map S.toldOf=d.map (·.1)++[S.toldOf S.live[k]]):=Lib.hid (by rw [List.take_succ_eq_append_getElem y,List.map_append,HE.out];rfl)
   generalize S.live[k]=i at f p Q
   have a3:=bq p;have Ar:=HH.out.keep HB.out;have b4:wr.cell? ⟨pb,3,none⟩=some (.map (some F)):=by rw [Lib.cell_of_heap Ar.bag];rfl
   have b6:(Instr.lookup 115 (.map (some F)) (.int .i64 ((i:Int)+1)) false).run Tryz.prog wr= .ok (.pointer (some ⟨q i,0,none⟩)) wr:=
    ig (t:=115) (e:=122) fU Tryz.underlying115 Ar.map (fun j hj=>by have:=bq hj;omega) i (by omega) p false
   obtain ⟨_,v0,x0,a0,a6⟩:=Ar.mail i p;have hz:dQ (S.mailOf i):=by rw [kd a3];exact (T.out.sz _ (List.getElem_mem a3)).1
   have c0:=dk T.out i
   have W:=Lib.hid (IJ z (q i) (i+1) _ _ _ v0 (S.stayOf i) x0 wr a0 a6 (by omega) hz.2.2.1 hz.2.2.2.2.2 (fun x K=>by
    unfold bp.stayOf stay at K;obtain ⟨j,_,rfl⟩:=List.mem_map.1 K
    exact nQ hz.2.2.2.2.1 j))
   have H:(gy (S.stayOf i)).length=(S.stayOf i).length:=by simp [gy]
   have c9:Hid (S.toldOf i=⟨i+1,(S.mailOf i).time,(S.mailOf i).frm,gy (S.stayOf i),(S.mailOf i).body⟩):=Lib.hid rfl;obtain ⟨n,en⟩:∃n,(S.stayOf i).length=n:=⟨_,rfl⟩;rw [en] at W c0 H;have a7:w.heap.size≤wr.heap.size:=HB.out.size;clear Ar a0 a6 hc a1 HE en;go_wp2_with fail
   refine W.out.mono ?_;rintro e w4 ⟨g,rfl,d2,a5,r⟩;have R4:=HR.out.keep r;have K4:=Lib.hid (ep HK.out fun g Y e _=>ae r e);have B4:=Lib.hid (HB.out.trans (r.mono a7))
   have HG:Hid (∀x∈d,x.2 < g):=Lib.hid (fun x K=>by
    have:=(HR.out.tos x K).lt x.2 rfl
    omega)
   have O4:=Lib.hid (a5.mono a7);have d3:wr.heap.size≤w4.heap.size:=r.size;have G:=R4.row;have a9:=Lib.hid R4;simp only [aY];clear r a5 R4 b6 b4 f
   go_wp2_with (first
    | (at_builtin;refine wpList_append_own _ rfl _ _ 35 rfl w.heap.size 45 im _ 5 72 Tryz.underlying35 a2 B C E rfl (by decide) _ _ _ rfl (G.alloc _) ⟨w4.heap.size,0,none⟩ 1 1 [.int .i64 ((i+1:Nat):Int),.int .i64 (S.mailOf i).time,.string (bs (S.mailOf i).frm),.slice (some ⟨g,0,none⟩) n n,.string (bs (S.mailOf i).body)] rfl rfl ?c1 ?c2 ?c3 ?c4 ?c5 ?_)
    | fail)
   case c1=>exact World.news_of_block (cs:=#[.int .i64 ((i+1:Nat):Int),.int .i64 (S.mailOf i).time,.string (bs (S.mailOf i).frm),.slice (some ⟨g,0,none⟩) n n,.string (bs (S.mailOf i).body)]) (t:=45) (fr:=(0,0)) (heap_alloc_new w4 _)
   case c2=>intro u hu;simp at hu;rcases hu with rfl | rfl | rfl | rfl | rfl <;> rfl
   case c3=>unfold maxLen;omega
   case c4=>omega
   case c5=>simp;omega
   ·intro v' d5 A l _
    have eV:(gW (S.toldOf i,g)).2= .slice (some ⟨g,0,none⟩) n n:=by
     show Value.slice (some ⟨g,0,none⟩) (gy (S.stayOf i)).length (gy (S.stayOf i)).length=_;rw [H]
    have b0:=Lib.hid (ql K4.out G l (by decide));have D:=Lib.hid (a9.out.plus (m:=S.toldOf i) (g:=g) HG.out (by rw [eV];show w4.ownsRow _ _ _ _ (gy (S.stayOf i)).length _;rw [H];exact O4.out) B4.out (by omega) (by rw [eV,b8];exact A) l);clear A l G;go_wp2_with fail
    exact ⟨⟨k+1,d++[(S.toldOf i,g)],by omega,by go_num,by simp;omega,Lib.hid (by rw [Q.out];simp),Lib.hid D.out.1,b0,Lib.hid D.out.2⟩,by simp [intOf];omega⟩
  ·have b5:k=S.live.length:=by omega
   subst b5;rw [List.take_length,←HQ.out] at HE;go_wp2_with fail
   go_ret;exact ⟨_,d,rfl,HR.out,HE.out,HB.out⟩
def cM (c n:Int):Int:=(if c < 0 then -(c+1) else c) % n
theorem dt (c:Int) {n:Int} (a:0 < n):0≤cM c n∧cM c n < n:=⟨Int.emod_nonneg _ (by omega),Int.emod_lt_of_pos _ a⟩
theorem bZ (c n:Int) (w:World) (p: -9223372036854775808≤c) (q:c≤9223372036854775807) (g:0 < n) (i:n≤9223372036854775807):
  Calls Tryz.prog 20 #[.int .i64 c,.int .i64 n] w fun e l=>e= .returned (.int .i64 (cM c n))∧w=l:=by
 have j:¬n=0:=by omega
 have d:∀x:Int,0≤x→x.tmod n=x % n:=fun x k=>Int.tmod_eq_emod_of_nonneg k
 by_cases f:c < 0
 ·have m:IntKind.i64.wrap (c+1)=c+1:=by rw [IntKind.wrap_i64];omega
  have o:IntKind.i64.wrap (-(c+1))= -(c+1):=by rw [IntKind.wrap_i64];omega
  have a:cM c n= -(c+1).tmod n:=by rw [←Int.neg_tmod];unfold cM;rw [if_pos f,d _ (by omega)]
  have b:=dt c g;rw [a] at b ⊢;have h:IntKind.i64.wrap (-(c+1).tmod n)= -(c+1).tmod n:=by rw [IntKind.wrap_i64];omega
  go_enter Tryz.func20,Tryz.ntmps20;go_wp2_with fail
  go_ret;exact ⟨rfl,rfl⟩
 ·have a:cM c n=c.tmod n:=by unfold cM;rw [if_neg f,d _ (by omega)]
  have b:=dt c g;rw [a] at b ⊢;have h:IntKind.i64.wrap (c.tmod n)=c.tmod n:=by rw [IntKind.wrap_i64];omega
  go_enter Tryz.func20,Tryz.ntmps20;go_wp2_with fail
  go_ret;exact ⟨rfl,rfl⟩
def dD (a b d:Int):bX where
 host:=bs [109,120,46,111,114,103]
 doms:=[bs [97,46,111,114,103],bs [66,46,110,101,116]]
 nets:=[(256,24)]
 users:=[(bs [117],bs [119]),(bs [118],bs [108,111,110,103,32,119,111,114,100])]
 most:=1+a
 size:=1+b
 waits:=[1,5,2]
 life:=1+d
 room:=1000000
def lS (x y z:Int):bX:=dD (cM x 10) (cM y 1000) (cM z 60)
theorem oW {a b d:Int} (g:0≤a∧a < 10) (h:0≤b∧b < 1000) (i:0≤d∧d < 60):ij (dD a b d)=true:=by
 have c:(jj (dD a b d).host.data.toList && oq (dD a b d).doms && nr (dD a b d).nets && kG (dD a b d).users)=true:=by kernel_rfl
 have e:kI (dD a b d).waits=true:=by kernel_rfl
 have f:cF (dD a b d).room 0 1000000=true:=by kernel_rfl
 have w:∀n x y:Int,x≤n→n≤y→cF n x y=true:=fun n x y c e=>by unfold cF;rw [decide_eq_true c,decide_eq_true e];rfl
 unfold ij;rw [c,e,f,w (dD a b d).most 1 10 (by show 1≤1+a;omega) (by show 1+a≤10;omega),w (dD a b d).size 1 1000 (by show 1≤1+b;omega) (by show 1+b≤1000;omega),w (dD a b d).life 1 1000000000 (by show 1≤1+d;omega) (by show 1+d≤1000000000;omega)];rfl
def Ks:Array Value:=#[.string ⟨#[]⟩,.slice none 0 0,.slice none 0 0,.slice none 0 0,.int .i64 0,.int .i64 0,.slice none 0 0,.int .i64 0,.int .i64 0]
theorem vE {w:World} {b n c:Nat} {a:Array Value} {t:TypeId} {z:Nat×Nat} (h:w.heap[b]? =some (.cells a t z)) (d:a.size=n * c):bg w (.slice (some ⟨b,0,none⟩) n n) n c a.toList:=by
 refine ⟨by simpa using d,.inr ⟨b,0,n,rfl,Nat.le_refl _,fun j e=>?_⟩⟩
 rw [Nat.zero_add,Lib.cell_of_heap h,Array.getElem?_toList]
theorem zj (x y z:Int) (w:World) (hx: -9223372036854775808≤x∧x≤9223372036854775807) (hy: -9223372036854775808≤y∧y≤9223372036854775807) (hz: -9223372036854775808≤z∧z≤9223372036854775807):
  Calls Tryz.prog 8 #[.int .i64 x,.int .i64 y,.int .i64 z] w fun e A=>∃vD vN vU vW,e= .returned (.agg #[.string (lS x y z).host,vD,vN,vU,.int .i64 (lS x y z).most,.int .i64 (lS x y z).size,vW,.int .i64 (lS x y z).life,.int .i64 (lS x y z).room])∧jZ A (lS x y z) vD vN vU vW∧Below w.heap.size w A:=by
 obtain ⟨a,Q⟩:∃a,cM x 10=a:=⟨_,rfl⟩;obtain ⟨b,R⟩:∃b,cM y 1000=b:=⟨_,rfl⟩;obtain ⟨d,S⟩:∃d,cM z 60=d:=⟨_,rfl⟩;have ba:=dt x (n:=10) (by decide);have bb:=dt y (n:=1000) (by decide);have bd:=dt z (n:=60) (by decide);rw [Q] at ba;rw [R] at bb;rw [S] at bd;have P:lS x y z=dD a b d:=by unfold lS;rw [Q,R,S]
 rw [P];have w1:IntKind.i64.wrap (1+a)=1+a:=by rw [IntKind.wrap_i64];omega
 have w2:IntKind.i64.wrap (1+b)=1+b:=by rw [IntKind.wrap_i64];omega
 have w3:IntKind.i64.wrap (1+d)=1+d:=by rw [IntKind.wrap_i64];omega
 have U:Hid (∀W:World,Calls Tryz.prog 20 #[.int .i64 x,.int .i64 10] W fun e A=>e= .returned (.int .i64 a)∧W=A):=Lib.hid (fun W=>by have:=bZ x 10 W hx.1 hx.2 (by decide) (by decide);rw [Q] at this;exact this);have V:Hid (∀W:World,Calls Tryz.prog 20 #[.int .i64 y,.int .i64 1000] W fun e A=>e= .returned (.int .i64 b)∧W=A):=Lib.hid (fun W=>by have:=bZ y 1000 W hy.1 hy.2 (by decide) (by decide);rw [R] at this;exact this);have X:Hid (∀W:World,Calls Tryz.prog 20 #[.int .i64 z,.int .i64 60] W fun e A=>e= .returned (.int .i64 d)∧W=A):=Lib.hid (fun W=>by have:=bZ z 60 W hz.1 hz.2 (by decide) (by decide);rw [S] at this;exact this);clear Q R S P ba bb bd hx hy hz;go_enter Tryz.func8,Tryz.ntmps8;go_wp2_with fail
 obtain ⟨r,i⟩:∃W:World,w.alloc (.cells #[.string ⟨#[]⟩,.slice none 0 0,.slice none 0 0,.slice none 0 0,.int .i64 0,.int .i64 0,.slice none 0 0,.int .i64 0,.int .i64 0] 30)=W:=⟨_,rfl⟩;have za:r.heap.size=w.heap.size+1:=by rw [←i];simp
 have xa:r.heap[w.heap.size]? =some (.cells Ks 30 (0,0)):=by rw [←i];exact heap_alloc_new w _
 have M:Below w.heap.size w r:=by rw [←i];exact (Below.refl _ _).alloc (Nat.le_refl _) _
 rw [i];obtain ⟨o,k⟩:∃W:World,r.alloc (.cells #[.string ⟨#[97,46,111,114,103]⟩,.string ⟨#[66,46,110,101,116]⟩] 9)=W:=⟨_,rfl⟩;have zb:o.heap.size=w.heap.size+2:=by rw [←k];simp [za]
 have N:Below r.heap.size r o:=by rw [←k];exact (Below.refl _ _).alloc (Nat.le_refl _) _
 have xb:o.heap[w.heap.size+1]? =some (.cells #[.string ⟨#[97,46,111,114,103]⟩,.string ⟨#[66,46,110,101,116]⟩] 9 (0,0)):=by rw [←k,←za];exact heap_alloc_new r _
 rw [k];obtain ⟨u,l⟩:∃W:World,o.alloc (.cells #[.int .i64 256,.int .i64 24] 77)=W:=⟨_,rfl⟩;have zc:u.heap.size=w.heap.size+3:=by rw [←l];simp [zb]
 have Z:Below o.heap.size o u:=by rw [←l];exact (Below.refl _ _).alloc (Nat.le_refl _) _
 have xc:u.heap[w.heap.size+1+1]? =some (.cells #[.int .i64 256,.int .i64 24] 77 (0,0)):=by rw [←l,show w.heap.size+1+1=o.heap.size by omega];exact heap_alloc_new o _
 rw [l];obtain ⟨p,m⟩:∃W:World,u.alloc (.cells #[.string ⟨#[117]⟩,.string ⟨#[119]⟩,.string ⟨#[118]⟩,.string ⟨#[108,111,110,103,32,119,111,114,100]⟩] 79)=W:=⟨_,rfl⟩;have zd:p.heap.size=w.heap.size+4:=by rw [←m];simp [zc]
 have f:Below u.heap.size u p:=by rw [←m];exact (Below.refl _ _).alloc (Nat.le_refl _) _
 have xd:p.heap[w.heap.size+1+1+1]? =some (.cells #[.string ⟨#[117]⟩,.string ⟨#[119]⟩,.string ⟨#[118]⟩,.string ⟨#[108,111,110,103,32,119,111,114,100]⟩] 79 (0,0)):=by rw [←m,show w.heap.size+1+1+1=u.heap.size by omega];exact heap_alloc_new u _
 rw [m];have B:Below r.heap.size r p:=(N.trans (Z.mono (by omega))).trans (f.mono (by omega));have O:Below o.heap.size o p:=Z.trans (f.mono (by omega));have D:=Lib.hid (ft B xa);have F:=Lib.hid (ft O xb);have H:=Lib.hid (ft f xc);have J:=Lib.hid xd;have C:=Lib.hid (M.trans (B.mono (by omega)));clear i k l m za xa M zb xb N zc Z xc f xd B O;refine (U.out _).mono ?_;rintro e w1 ⟨rfl,rfl⟩;go_wp2_with fail
 refine (V.out _).mono ?_;rintro e w1 ⟨rfl,rfl⟩;go_wp2_with fail
 obtain ⟨c,s⟩:∃W:World,p.alloc (.cells #[.int .i64 1,.int .i64 5,.int .i64 2] 3)=W:=⟨_,rfl⟩;have be:Below p.heap.size p c:=by rw [←s];exact (Below.refl _ _).alloc (Nat.le_refl _) _
 have xe:c.heap[p.heap.size]? =some (.cells #[.int .i64 1,.int .i64 5,.int .i64 2] 3 (0,0)):=by rw [←s];exact heap_alloc_new p _
 rw [s];refine (X.out _).mono ?_;rintro e w1 ⟨rfl,rfl⟩;have g:=ft be D.out;have E:=Lib.hid g;have G:=Lib.hid (ft be F.out);have I:=Lib.hid (ft be H.out);have K:=Lib.hid (ft be J.out);have Y:=Lib.hid xe;have T:=Lib.hid (C.out.trans (be.mono (by omega)));have m0:c.cell? ⟨w.heap.size,0,none⟩=some (.string ⟨#[]⟩):=by rw [Lib.cell_of_heap g];rfl
 have m1:c.cell? ⟨w.heap.size,1,none⟩=some (.slice none 0 0):=by rw [Lib.cell_of_heap g];rfl
 have m2:c.cell? ⟨w.heap.size,2,none⟩=some (.slice none 0 0):=by rw [Lib.cell_of_heap g];rfl
 have m3:c.cell? ⟨w.heap.size,3,none⟩=some (.slice none 0 0):=by rw [Lib.cell_of_heap g];rfl
 have m4:c.cell? ⟨w.heap.size,4,none⟩=some (.int .i64 0):=by rw [Lib.cell_of_heap g];rfl
 have m5:c.cell? ⟨w.heap.size,5,none⟩=some (.int .i64 0):=by rw [Lib.cell_of_heap g];rfl
 have m6:c.cell? ⟨w.heap.size,6,none⟩=some (.slice none 0 0):=by rw [Lib.cell_of_heap g];rfl
 have m7:c.cell? ⟨w.heap.size,7,none⟩=some (.int .i64 0):=by rw [Lib.cell_of_heap g];rfl
 have m8:c.cell? ⟨w.heap.size,8,none⟩=some (.int .i64 0):=by rw [Lib.cell_of_heap g];rfl
 have ff:∀j:Nat,c.frozen? ⟨w.heap.size,j,none⟩=false:=fun j=>Lib.frozen_of_heap g j;clear be xe s g D F H J C;go_wp2_with fail
 obtain ⟨h,t⟩:∃W:World,(((((((((c.setCell ⟨w.heap.size,0,none⟩ (.string ⟨#[109,120,46,111,114,103]⟩)).setCell ⟨w.heap.size,1,none⟩ (.slice (some ⟨w.heap.size+1,0,none⟩) 2 2)).setCell ⟨w.heap.size,2,none⟩ (.slice (some ⟨w.heap.size+1+1,0,none⟩) 1 1)).setCell ⟨w.heap.size,3,none⟩ (.slice (some ⟨w.heap.size+1+1+1,0,none⟩) 2 2)).setCell ⟨w.heap.size,4,none⟩ (.int .i64 (1+a))).setCell ⟨w.heap.size,5,none⟩ (.int .i64 (1+b))).setCell ⟨w.heap.size,6,none⟩ (.slice (some ⟨w.heap.size+4,0,none⟩) 3 3)).setCell ⟨w.heap.size,7,none⟩ (.int .i64 (1+d))).setCell ⟨w.heap.size,8,none⟩ (.int .i64 1000000))=W:=⟨_,rfl⟩;rw [t];have L:aL w.heap.size c h:=by rw [←t];exact ((((((((((aL.refl _ _).setCell _).setCell _).setCell _).setCell _).setCell _).setCell _).setCell _).setCell _).setCell _)
 have q:h.heap[w.heap.size]? =some (.cells #[.string ⟨#[109,120,46,111,114,103]⟩,.slice (some ⟨w.heap.size+1,0,none⟩) 2 2,.slice (some ⟨w.heap.size+1+1,0,none⟩) 1 1,.slice (some ⟨w.heap.size+1+1+1,0,none⟩) 2 2,.int .i64 (1+a),.int .i64 (1+b),.slice (some ⟨w.heap.size+4,0,none⟩) 3 3,.int .i64 (1+d),.int .i64 1000000] 30 (0,0)):=by
  rw [←t];have z0:=gU (j:=0) (v:= .string ⟨#[109,120,46,111,114,103]⟩) E.out (A':=#[.string ⟨#[109,120,46,111,114,103]⟩,.slice none 0 0,.slice none 0 0,.slice none 0 0,.int .i64 0,.int .i64 0,.slice none 0 0,.int .i64 0,.int .i64 0]) rfl;have z1:=gU (j:=1) (v:= .slice (some ⟨w.heap.size+1,0,none⟩) 2 2) z0 (A':=#[.string ⟨#[109,120,46,111,114,103]⟩,.slice (some ⟨w.heap.size+1,0,none⟩) 2 2,.slice none 0 0,.slice none 0 0,.int .i64 0,.int .i64 0,.slice none 0 0,.int .i64 0,.int .i64 0]) rfl;have z2:=gU (j:=2) (v:= .slice (some ⟨w.heap.size+1+1,0,none⟩) 1 1) z1 (A':=#[.string ⟨#[109,120,46,111,114,103]⟩,.slice (some ⟨w.heap.size+1,0,none⟩) 2 2,.slice (some ⟨w.heap.size+1+1,0,none⟩) 1 1,.slice none 0 0,.int .i64 0,.int .i64 0,.slice none 0 0,.int .i64 0,.int .i64 0]) rfl;have z3:=gU (j:=3) (v:= .slice (some ⟨w.heap.size+1+1+1,0,none⟩) 2 2) z2 (A':=#[.string ⟨#[109,120,46,111,114,103]⟩,.slice (some ⟨w.heap.size+1,0,none⟩) 2 2,.slice (some ⟨w.heap.size+1+1,0,none⟩) 1 1,.slice (some ⟨w.heap.size+1+1+1,0,none⟩) 2 2,.int .i64 0,.int .i64 0,.slice none 0 0,.int .i64 0,.int .i64 0]) rfl;have z4:=gU (j:=4) (v:= .int .i64 (1+a)) z3 (A':=#[.string ⟨#[109,120,46,111,114,103]⟩,.slice (some ⟨w.heap.size+1,0,none⟩) 2 2,.slice (some ⟨w.heap.size+1+1,0,none⟩) 1 1,.slice (some ⟨w.heap.size+1+1+1,0,none⟩) 2 2,.int .i64 (1+a),.int .i64 0,.slice none 0 0,.int .i64 0,.int .i64 0]) rfl;have z5:=gU (j:=5) (v:= .int .i64 (1+b)) z4 (A':=#[.string ⟨#[109,120,46,111,114,103]⟩,.slice (some ⟨w.heap.size+1,0,none⟩) 2 2,.slice (some ⟨w.heap.size+1+1,0,none⟩) 1 1,.slice (some ⟨w.heap.size+1+1+1,0,none⟩) 2 2,.int .i64 (1+a),.int .i64 (1+b),.slice none 0 0,.int .i64 0,.int .i64 0]) rfl;have z6:=gU (j:=6) (v:= .slice (some ⟨w.heap.size+4,0,none⟩) 3 3) z5 (A':=#[.string ⟨#[109,120,46,111,114,103]⟩,.slice (some ⟨w.heap.size+1,0,none⟩) 2 2,.slice (some ⟨w.heap.size+1+1,0,none⟩) 1 1,.slice (some ⟨w.heap.size+1+1+1,0,none⟩) 2 2,.int .i64 (1+a),.int .i64 (1+b),.slice (some ⟨w.heap.size+4,0,none⟩) 3 3,.int .i64 0,.int .i64 0]) rfl;have z7:=gU (j:=7) (v:= .int .i64 (1+d)) z6 (A':=#[.string ⟨#[109,120,46,111,114,103]⟩,.slice (some ⟨w.heap.size+1,0,none⟩) 2 2,.slice (some ⟨w.heap.size+1+1,0,none⟩) 1 1,.slice (some ⟨w.heap.size+1+1+1,0,none⟩) 2 2,.int .i64 (1+a),.int .i64 (1+b),.slice (some ⟨w.heap.size+4,0,none⟩) 3 3,.int .i64 (1+d),.int .i64 0]) rfl;exact gU (j:=8) (v:= .int .i64 1000000) z7 (A':=#[.string ⟨#[109,120,46,111,114,103]⟩,.slice (some ⟨w.heap.size+1,0,none⟩) 2 2,.slice (some ⟨w.heap.size+1+1,0,none⟩) 1 1,.slice (some ⟨w.heap.size+1+1+1,0,none⟩) 2 2,.int .i64 (1+a),.int .i64 (1+b),.slice (some ⟨w.heap.size+4,0,none⟩) 3 3,.int .i64 (1+d),.int .i64 1000000]) rfl
 have P:h.cell? ⟨w.heap.size,0,none⟩=some (.string ⟨#[109,120,46,111,114,103]⟩):=by rw [Lib.cell_of_heap q];rfl
 have e1:h.cell? ⟨w.heap.size,1,none⟩=some (.slice (some ⟨w.heap.size+1,0,none⟩) 2 2):=by rw [Lib.cell_of_heap q];rfl
 have e2:h.cell? ⟨w.heap.size,2,none⟩=some (.slice (some ⟨w.heap.size+1+1,0,none⟩) 1 1):=by rw [Lib.cell_of_heap q];rfl
 have e3:h.cell? ⟨w.heap.size,3,none⟩=some (.slice (some ⟨w.heap.size+1+1+1,0,none⟩) 2 2):=by rw [Lib.cell_of_heap q];rfl
 have e4:h.cell? ⟨w.heap.size,4,none⟩=some (.int .i64 (1+a)):=by rw [Lib.cell_of_heap q];rfl
 have e5:h.cell? ⟨w.heap.size,5,none⟩=some (.int .i64 (1+b)):=by rw [Lib.cell_of_heap q];rfl
 have e6:h.cell? ⟨w.heap.size,6,none⟩=some (.slice (some ⟨w.heap.size+4,0,none⟩) 3 3):=by rw [Lib.cell_of_heap q];rfl
 have e7:h.cell? ⟨w.heap.size,7,none⟩=some (.int .i64 (1+d)):=by rw [Lib.cell_of_heap q];rfl
 have e8:h.cell? ⟨w.heap.size,8,none⟩=some (.int .i64 1000000):=by rw [Lib.cell_of_heap q];rfl
 clear t q;refine bodyPost_ret (v:= .agg #[.string ⟨#[109,120,46,111,114,103]⟩,.slice (some ⟨w.heap.size+1,0,none⟩) 2 2,.slice (some ⟨w.heap.size+1+1,0,none⟩) 1 1,.slice (some ⟨w.heap.size+1+1+1,0,none⟩) 2 2,.int .i64 (1+a),.int .i64 (1+b),.slice (some ⟨w.heap.size+4,0,none⟩) 3 3,.int .i64 (1+d),.int .i64 1000000]) (by simp [results,Tryz.results8,go_sem,P,e1,e2,e3,e4,e5,e6,e7,e8]) rfl ?_;exact ⟨_,_,_,_,rfl,⟨vE (lK L G.out (by omega)) rfl,vE (lK L I.out (by omega)) rfl,vE (lK L K.out (by omega)) rfl,vE (lK L (by rw [←zd];exact Y.out) (by omega)) rfl⟩,T.out.trans (L.below (Nat.le_refl _))⟩
def KW:Value→Nat
 | .string b=>b.size
 | _=>0
theorem sx (a:List UInt8) (c:a.length≤4294967296) (W:World):Calls Tryz.prog 15 #[.string (bs a)] W fun e b=>e= .returned (.tuple #[.string (bs (gf a).1),.string (bs (gf a).2)])∧Below W.heap.size W b:=by
 refine (wO (bs a) W (by rw [aG];omega)).mono ?_;rintro e b ⟨rfl,m,rfl⟩;exact ⟨rfl,bA _ _ _⟩
theorem Es {s:Nat} {w:World} {v:Value} {a:List (aX×Nat)} {l:List aX} (h:iT s w v a) (e:a.map (·.1)=l):nL w v l:=by
 have b:=h.mails.at;rw [List.map_map] at b;rw [←e];exact b
end Go.Proofs.YtofpegbpgkkgkaaGreatDoor
