import Derived.Test.YtofpegbpgkkgkaaGreatDoorS22
namespace Go.Proofs.YtofpegbpgkkgkaaGreatDoor
set_option maxHeartbeats 8000000
set_option maxRecDepth 1000000
open Go.RowKit
def Ic (c:bT) (s:bA) (name shown:List UInt8) (size:Nat) (z:Int) (s':bA) (ls':List (List UInt8)):Prop:=
 z=0∧s'=s∧ls'=[xH]∨z=1∧s'=s∧ls'=[FC]∨z=2∧s'={s with over:=true}∧ls'=[FB]∨z=3∧s'=s∧ls'=[jJ]∨z=4∧s'={s with tx:=none}∧ls'=[jJ]∨(∃t,s.tx=some t∧z=5∧s'={s with tx:=some {t with body:=some ⟨[],false,false⟩}}∧ls'=[zw])∨z=6∧s'={s with greeted:=true,tx:=none}∧ls'=[[50,53,48,32]++cL c++[13,10]]∨z=7∧s'={s with greeted:=true,tx:=none}∧ls'=[[50,53,48,45]++cL c++[13,10],[50,53,48,45,83,73,90,69,32]++Lib.itoa c.size++[13,10],[50,53,48,32,65,85,84,72,32,80,76,65,73,78,13,10]]∨z=8∧s'=(o7 c s shown).1∧ls'=(o7 c s shown).2∨z=9∧s'=(lf c s name (size:Int)).1∧ls'=(lf c s name (size:Int)).2∨∃t,s.tx=some t∧t.body=none∧name.length≤1048576∧t.tos.length≤10∧z=10∧s'={s with tx:=some {t with tos:=dj t.tos c.most (s.nets || s.known || dY c name) name}}∧ls'=[cz t.tos c.most (s.nets || s.known || dY c name) name]
section
variable {A:Nat→Prop} {pp pb sb ch:Nat} {vw:Value} {w:World} {s:bA} {E:Nat→Prop} {c:bT} {ls:List (List UInt8)}
theorem cC.ready (h:cC w A pp pb sb ch vw ls s) (b:Nat):Calls Tryz.prog 141 #[.pointer (some ⟨sb,0,none⟩),.int .i64 (b:Int)] w fun e n=>e= .returned (.bool (fC s b))∧w=n:=by
 obtain ⟨m,f,d⟩:=h.ex;unfold fC
 cases i:s.tx with
 | none=>
  rw [i] at d;have d:m= .pointer none:=d;subst d;exact BZ sb ch _ ls b s.greeted w f rfl rfl
 | some t=>
  rw [i] at d;obtain ⟨l,u,r,rfl,q,g,p,o⟩:=d;obtain ⟨a,j,k⟩:=aE (aC g.row);exact B7 sb ch l t.tos.length j a _ ls b s.greeted w f rfl rfl ((g.cell 1).trans (by rw [k];rfl))
theorem cG.ret {d:World} {b:bA} {a:List (List UInt8)} {e:Ending} (h:cG A pp pb sb ch vw w b a e d):e= .returned (.tuple #[]):=h.1
theorem BQ (h:cC w A pp pb sb ch vw [] s) (t:fO E w pp c) (_hd:∀k,E k→¬A k) (d b:List UInt8) (f:Nat) (a:Nat) (r:fC s a=false):
  Calls Tryz.prog 102 #[.pointer (some ⟨sb,0,none⟩),.agg #[.int .i64 (a:Int),.string (bs d),.int .i64 (f:Int),.string (bs b)]] w (cG A pp pb sb ch vw w s [mn]):=by
 obtain ⟨g,j⟩:∃g:World,w.alloc (.cells #[.int .i64 (a:Int),.string (bs d),.int .i64 (f:Int),.string (bs b)] 179)=g:=⟨_,rfl⟩;have l:Below w.heap.size w g:=by rw [←j];exact (Below.refl _ _).alloc (Nat.le_refl _) _
 have i:g.heap[w.heap.size]? =some (.cells #[.int .i64 (a:Int),.string (bs d),.int .i64 (f:Int),.string (bs b)] 179 (0,0)):=by rw [←j];exact heap_alloc_new w _
 have z:g.cell? ⟨w.heap.size,0,none⟩=some (.int .i64 (a:Int)):=by rw [Lib.cell_of_heap i];rfl
 have B:g.cell? ⟨w.heap.size,1,none⟩=some (.string (bs d)):=by rw [Lib.cell_of_heap i];rfl
 have C:g.cell? ⟨w.heap.size,2,none⟩=some (.int .i64 (f:Int)):=by rw [Lib.cell_of_heap i];rfl
 have D:g.cell? ⟨w.heap.size,3,none⟩=some (.string (bs b)):=by rw [Lib.cell_of_heap i];rfl
 have o:=h.below l;have q:=t.below l;have n:Hid (Calls Tryz.prog 141 #[.pointer (some ⟨sb,0,none⟩),.int .i64 (a:Int)] g fun e y=>e= .returned (.bool false)∧g=y):=Lib.hid (by rw [←r];exact o.ready a);have x:=Lib.hid (o.told1 [53,48,51,32,102,105,114,115,116] (by decide));have m:=Lib.hid l;clear h t o q l i _hd;go_enter Tryz.func102,Tryz.ntmps102;go_wp2_with fail
 refine n.out.mono ?_;rintro e F ⟨rfl,rfl⟩;go_wp2_with fail
 refine x.out.mono ?_;rintro e G p;have r:=p.ret;subst r;have u:=Lib.hid p;clear p;go_wp2_with fail
 refine bodyPost_ret (v:= .tuple #[]) (by simp [results,Tryz.results102,go_sem]) rfl ?_;exact cG.from m.out u.out
theorem gh (h:cC w A pp pb sb ch vw [] s) (C:fO E w pp c) (v:∀k,E k→¬A k) (b a:List UInt8) (d:Nat) {j:Nat} {z:Int} {F:bA} {o:List (List UInt8)} (D:(j:Int)=z) (y:fC s j=true) (J:Ic c s b a d z F o):
  Calls Tryz.prog 102 #[.pointer (some ⟨sb,0,none⟩),.agg #[.int .i64 z,.string (bs b),.int .i64 (d:Int),.string (bs a)]] w (cG A pp pb sb ch vw w F o):=by
 obtain ⟨l,n⟩:∃l:World,w.alloc (.cells #[.int .i64 z,.string (bs b),.int .i64 (d:Int),.string (bs a)] 179)=l:=⟨_,rfl⟩;have p:Below w.heap.size w l:=by rw [←n];exact (Below.refl _ _).alloc (Nat.le_refl _) _
 have m:l.heap[w.heap.size]? =some (.cells #[.int .i64 z,.string (bs b),.int .i64 (d:Int),.string (bs a)] 179 (0,0)):=by rw [←n];exact heap_alloc_new w _
 have L:l.cell? ⟨w.heap.size,0,none⟩=some (.int .i64 z):=by rw [Lib.cell_of_heap m];rfl
 have M:l.cell? ⟨w.heap.size,1,none⟩=some (.string (bs b)):=by rw [Lib.cell_of_heap m];rfl
 have N:l.cell? ⟨w.heap.size,2,none⟩=some (.int .i64 (d:Int)):=by rw [Lib.cell_of_heap m];rfl
 have O:l.cell? ⟨w.heap.size,3,none⟩=some (.string (bs a)):=by rw [Lib.cell_of_heap m];rfl
 have f:=h.below p;have g:=C.below p;have r:Hid (Calls Tryz.prog 141 #[.pointer (some ⟨sb,0,none⟩),.int .i64 z] l fun e K=>e= .returned (.bool true)∧l=K):=Lib.hid (by rw [←D,←y];exact f.ready j)
 rcases J with ⟨rfl,rfl,rfl⟩ | ⟨rfl,rfl,rfl⟩ | ⟨rfl,rfl,rfl⟩ | ⟨rfl,rfl,rfl⟩ | ⟨rfl,rfl,rfl⟩ | ⟨t,B,rfl,rfl,rfl⟩ | ⟨rfl,rfl,rfl⟩ | ⟨rfl,rfl,rfl⟩ | ⟨rfl,rfl,rfl⟩ | ⟨rfl,rfl,rfl⟩ | ⟨t,B,x,I,H,rfl,rfl,rfl⟩;have i:=Lib.hid (f.told1 [53,48,48,32,119,104,97,116] (by decide))
 rotate_left
 have i:=Lib.hid (f.told1 [53,48,49,32,104,111,119] (by decide))
 rotate_left
 have i:=Lib.hid (f.quit)
 rotate_left
 have i:=Lib.hid (f.told1 [50,53,48,32,111,107] (by decide))
 rotate_left
 have i:=Lib.hid (f.reset)
 rotate_left
 have i:=Lib.hid (f.data B)
 rotate_left
 have i:=Lib.hid (f.greet g v)
 rotate_left
 have i:=Lib.hid (f.more g v)
 rotate_left
 have i:=Lib.hid (f.know g a)
 rotate_left
 have i:=Lib.hid (f.mail g b (d:Int))
 rotate_left
 have i:=Lib.hid (f.rcpt g B x b I H)
 rotate_left
 all_goals
  have q:=Lib.hid p;clear h C f g p m v D;go_enter Tryz.func102,Tryz.ntmps102;go_wp2_with fail
  refine r.out.mono ?_;rintro e P ⟨rfl,rfl⟩;go_wp2_with fail
  refine i.out.mono ?_;rintro e Q u;have y:=u.ret;subst y;have G:=Lib.hid u;clear u;go_wp2_with fail
  refine bodyPost_end (results_none rfl _ _ _) rfl ?_;exact cG.from q.out G.out
end
def kP (w:World) (v:Value) (l:List UInt8):Prop:=w.ownsRow 0 5 1 v l.length (Lib.byteCells l)
theorem aH.drew' {b:Nat} {w a:World} (h:aH b w a):aH b w a.drew:=⟨h.1,h.2,h.3.trans ⟨rfl,rfl,rfl⟩⟩
theorem kP.parts {w:World} {v:Value} {l:List UInt8} (h:kP w v l) (k:l≠[]):∃g a b,v= .slice (some ⟨g,0,none⟩) l.length a∧w.heap[g]? =some (.cells b 5 (0,0))∧l.length≤a∧a≤maxLen∧b.size=a∧b.toList.take l.length=Lib.byteCells l:=by
 rcases h.2 with ⟨_,d⟩ | ⟨g,a,b,e,_,j,f,i,m,c⟩
 ·exact absurd (List.length_eq_zero_iff.1 d) k
 ·exact ⟨g,a,b,e,j,f,i,by omega,by rw [Nat.mul_one] at c;exact c⟩
theorem kP.mk {w:World} {l:List UInt8} {g cap:Nat} {a:Array Value} (e:w.heap[g]? =some (.cells a 5 (0,0))) (b:l.length≤cap) (c:cap≤maxLen) (f:a.size=cap) (d:a.toList.take l.length=Lib.byteCells l):kP w (.slice (some ⟨g,0,none⟩) l.length cap) l:=
 ⟨by rw [Nat.mul_one];exact gD l,.inr ⟨g,cap,a,rfl,Nat.zero_le _,e,b,c,by omega,by rw [Nat.mul_one];exact d⟩⟩
theorem xk {a:Array Value} {l:List UInt8} (h:a.toList.take l.length=Lib.byteCells l) (j:Nat) (b:j < l.length):a[j]? =some (.int .u8 ((l.getD j 0).toNat:Int)):=by
 rw [←Array.getElem?_toList,←List.getElem?_take_of_lt b,h,Lib.byteCells,List.getElem?_map,List.getElem?_eq_getElem b,List.getD_eq_getElem?_getD,List.getElem?_eq_getElem b];rfl
def kA (l:List UInt8):List UInt8:=if 102 < l.length then l.take 101++[l.getD 102 0] else l
theorem Ci (l:List UInt8):(kA l).length≤102:=by
 unfold kA
 split
 ·rename_i h
  simp only [List.length_append,List.length_take,List.length_cons,List.length_nil];omega
 ·omega
structure kB (w:World) (sb:Nat) (C:Array Value) (v:Value) (l:List UInt8):Prop where
 blk:w.heap[sb]? =some (.cells C 130 (0,0))
 size:C.size=9
 at2:C[2]? =some v
 row:kP w v l
theorem kB.far {w:World} {sb:Nat} {C:Array Value} {v:Value} {l:List UInt8} (h:kB w sb C v l):v.ownBlock≠some sb:=fun e=>by
 obtain ⟨b,a⟩:=cX h.row e;rw [h.blk] at a;simp at a
theorem kB.below {w b:World} {sb:Nat} {C:Array Value} {v:Value} {l:List UInt8} (h:kB w sb C v l) (a:Below w.heap.size w b):kB b sb C v l:=⟨ae a h.blk,h.size,h.at2,ax h.row fun _ _ e _=>ae a e⟩
def nL (sb:Nat) (C:Array Value) (v:Value) (l':List UInt8) (w w':World):Prop:=
 ∃v',kB w' sb (C.setIfInBounds 2 v') v' l'∧aF (fun k=>k=sb∨v.ownBlock=some k) w w'∧∀k,v'.ownBlock=some k→v.ownBlock=some k∨w.heap.size≤k
theorem Ac (sb:Nat) (C:Array Value) (v:Value) (l:List UInt8) (w:World) (h:kB w sb C v l) (hl:l.length≤103) (t:1≤l.length):
  Calls Tryz.prog 98 #[.pointer (some ⟨sb,2,none⟩)] w fun e w'=>e= .returned (.tuple #[])∧nL sb C v (kA l) w w':=by
 obtain ⟨g,a,V,rfl,q,p1,Y,Z,y⟩:=h.row.parts (fun e=>by rw [e] at t;simp at t);have S:w.cell? ⟨sb,2,none⟩=some (.slice (some ⟨g,0,none⟩) l.length a):=by rw [Lib.cell_of_heap h.blk];exact h.at2
 have f2:=Lib.frozen_of_heap h.blk 2
 have r:C.setIfInBounds 2 (.slice (some ⟨g,0,none⟩) l.length a)=C:=by
  apply Array.ext_getElem?;intro i;rw [Array.getElem?_setIfInBounds]
  split
  ·rename_i H
   subst H;rw [h.at2,if_pos (by have:=h.size;omega)]
  ·rfl
 by_cases c:102 < l.length
 ·have I:l.length=103:=by omega
  obtain ⟨d,p⟩:∃d,l.getD 102 0=d:=⟨_,rfl⟩;obtain ⟨J,x⟩:∃J,l.getD 101 0=J:=⟨_,rfl⟩;have u:sb≠g:=fun e=>h.far (by rw [e];rfl);have M:w.drew.cell? ⟨g,101,none⟩=some (.int .u8 (J.toNat:Int)):=by show w.cell? _=_;rw [Lib.cell_of_heap q,←x];exact xk y 101 (by omega)
  have N:w.drew.cell? ⟨g,102,none⟩=some (.int .u8 (d.toNat:Int)):=by show w.cell? _=_;rw [Lib.cell_of_heap q,←p];exact xk y 102 (by omega)
  have fg:w.drew.frozen? ⟨g,101,none⟩=false:=Lib.frozen_of_heap q 101;have U:w.drew.cell? ⟨sb,2,none⟩=some (.slice (some ⟨g,0,none⟩) l.length a):=S;have H:(102:Int) < (l.length:Int):=by omega
  have X:(101:Int) < (l.length:Int):=by omega
  have z:aH g w ((w.setCell ⟨g,101,none⟩ (.int .u8 (d.toNat:Int))).drew):=((aH.refl _ _).setCell _).drew';have b:=heap_setCell_same w g 101 _ _ (.int .u8 (d.toNat:Int)) q;obtain ⟨f,n⟩:∃f:World,(w.setCell ⟨g,101,none⟩ (.int .u8 (d.toNat:Int))).drew=f:=⟨_,rfl⟩;have F:=Lib.hid n;replace b:(w.setCell ⟨g,101,none⟩ (.int .u8 (d.toNat:Int))).drew.heap[g]? =_:=b;rw [n] at z b;have m:=(z.2 sb u).trans h.blk;have E:Hid (kA l=l.take 101++[d]):=Lib.hid (by unfold kA;rw [if_pos c,p]);have G:aH sb f (f.setCell ⟨sb,2,none⟩ (.slice (some ⟨g,0,none⟩) 102 a)):=(aH.refl _ _).setCell _;have o:(l.take 101++[d]).length=102:=by simp only [List.length_append,List.length_take,List.length_cons,List.length_nil];omega
  have L:kP (f.setCell ⟨sb,2,none⟩ (.slice (some ⟨g,0,none⟩) 102 a)) (.slice (some ⟨g,0,none⟩) 102 a) (l.take 101++[d]):=by
   have:=kP.mk (l:=l.take 101++[d]) (w:=f.setCell ⟨sb,2,none⟩ (.slice (some ⟨g,0,none⟩) 102 a)) (cap:=a) ((G.2 g (Ne.symm u)).trans b) (by omega) Y (by simp [Z]) (by
    rw [o];apply List.ext_getElem?;intro j;rw [List.getElem?_take]
    by_cases P:j < 102
    ·rw [if_pos P,Array.getElem?_toList]
     by_cases s:j=101
     ·subst s;rw [Array.getElem?_setIfInBounds_self_of_lt (by omega),Lib.byteCells,List.getElem?_map,List.getElem?_append_right (by rw [List.length_take];omega),List.length_take,show 101 - min 101 l.length=0 by omega]
      rfl
     ·rw [Array.getElem?_setIfInBounds_ne (fun e=>s e.symm),xk y j (by omega)];rw [Lib.byteCells,List.getElem?_map,List.getElem?_append_left (by rw [List.length_take];omega),List.getElem?_take_of_lt (by omega),List.getElem?_eq_getElem (by omega),List.getD_eq_getElem?_getD,List.getElem?_eq_getElem (by omega)];rfl
    ·rw [if_neg P,List.getElem?_eq_none (by rw [gD];omega)])
   rw [o] at this;exact this
  have D:=Lib.hid L;have R:Hid (aF (fun k=>k=sb∨(Value.slice (some ⟨g,0,none⟩) l.length a).ownBlock=some k) w (f.setCell ⟨sb,2,none⟩ (.slice (some ⟨g,0,none⟩) 102 a))):=Lib.hid (((aF.same z).mono (fun k _ e=> .inr (by rw [e];rfl))).trans (aF.same G) (fun _ _ e=> .inl e));have A:=Lib.hid (heap_setCell_same f sb 2 _ _ (.slice (some ⟨g,0,none⟩) 102 a) m);have T:f.cell? ⟨sb,2,none⟩=some (.slice (some ⟨g,0,none⟩) l.length a):=by rw [Lib.cell_of_heap m];exact h.at2
  have W:=Lib.frozen_of_heap m 2;have K:=Lib.hid h.size;have O:(102:Int)≤(a:Int):=by omega
  clear h q b z G L m y n x p I o;go_enter Tryz.func98,Tryz.ntmps98;go_wp2_with fail
  go_region
  rw [F.out];go_wp2_with fail
  refine bodyPost_end (results_none rfl _ _ _) rfl ?_;exact ⟨rfl,.slice (some ⟨g,0,none⟩) 102 a,by rw [E.out];exact ⟨A.out,by rw [Array.size_setIfInBounds];exact K.out,by rw [Array.getElem?_setIfInBounds_self_of_lt (by have:=K.out;omega)],D.out⟩,R.out,fun k e=> .inl e⟩
 ·have E:Hid (kA l=l):=Lib.hid (by unfold kA;rw [if_neg c]);have H:¬(102:Int) < (l.length:Int):=by omega
  have Q:=Lib.hid h;have B:=Lib.hid r;clear h q y r;go_enter Tryz.func98,Tryz.ntmps98;go_wp2_with fail
  refine bodyPost_end (results_none rfl _ _ _) rfl ?_;exact ⟨rfl,_,by rw [E.out,B.out];exact Q.out,aF.refl _ _,fun k e=> .inl e⟩
open Go.Conc Go.RowKit
def CG (f:FuncId):Frame:={base f with kind:= .deferred}
theorem Cv (q:List UInt8→World→Prop) (sb i:Nat) (u:Bool) (V:Value) (W:List Frame) (R:World→Prop)
  (X:∀a l w,q a w→l.length≤1048576→a.length+l.length≤140737488355328→Calls Tryz.prog 96 #[V,.string (bs l)] w fun e j=>(∃v,e= .returned v)∧q (a++l) j∧∀o,w.heap[i]? =some o→j.heap[i]? =some o)
  (d:∀a w,q a w→w.cell? ⟨sb,3,none⟩=some (.chan (some i)))
  (p:∀a w M y s r,q a w→w.heap[i]? =some (.chan 3 M false s r u)→q a (w.setChan i 3 y false s (r+1) u)):
  ∀(g:List (List UInt8)) (a:List UInt8) (w:World) (s r:Nat) (u2 u3 u4 u5 u6 u7 u8 u9 u10 u11 u12 u13 u14 u15:Value),q a w→w.heap[i]? =some (.chan 3 (g.map fun l=>Value.string (bs l)).toArray false s r u)→(∀l∈g,l.length≤1048576)→a.length+g.flatten.length≤140737488355328→
   (∀j U T,q (a++g.flatten) j→j.heap[i]? =some (.chan 3 #[] false U T u)→R j)→
   LoneTo Tryz.prog (fun g' j=>∃e N,g'=G N W∧(e= .returned (.tuple #[])∧R j)∧N.kind= .deferred∧N.going Tryz.prog j e)
    (G ((CG 63).at ⟨#[.pointer (some ⟨sb,0,none⟩),V,u2,u3,u4,u5,u6,u7,u8,u9,u10,u11,u12,u13,u14,u15],[]⟩ [.code (gn Tryz.f63),.inLoop (gn Tryz.f63),.inBlock 0]) W) w:=by
 intro g
 induction g with
 | nil=>
  intro a w s r u2 u3 u4 u5 u6 u7 u8 u9 u10 u11 u12 u13 u14 u15 t b _ _ K;have Y:=d a w t;have F:=K w s r (by simpa using t) (by simpa using b);simp only [List.map_nil] at b;clear X d p K;refine LoneTo.goes (n:=30) ?_;simp only [gn,od,Tryz.f63]
  s_c stepG_block
  s_c stepG_seq
  s_reg
  s_op
  s_op
  s_op
  s_op
  s_c stepG_region_end
  s_c stepG_seq
  s_reg
  s_stop
  refine LoneTo.step (step_lone_select_default (c:=i) (z:= .string ⟨#[]⟩) (stepG_comm (cases:=#[rcase i (.string ⟨#[]⟩)]) (blocking:=false) (shape:= .select) (w':=w) rfl rfl (by decide) (by simp [go_sem,rcase,Act.eval,execOp])) b) ?_;rw [Frame.finish_at]
  walk_nrm
  refine LoneTo.goes (n:=20) ?_
  s_op
  s_op
  s_c stepG_region_end
  s_c stepG_block
  s_cond false
  s_c stepG_ret'
  s_stop
  exact LoneTo.done ⟨.returned (.tuple #[]),_,rfl,⟨rfl,F⟩,rfl,rfl,rfl,_,Tryz.func63,by simp [results,Tryz.f63,Frame.at]⟩
 | cons l g ih=>
  intro a w s r u2 u3 u4 u5 u6 u7 u8 u9 u10 u11 u12 u13 u14 u15 t b Z B K;have Y:=d a w t;have S:=Z l (List.mem_cons_self ..);have C:a.length+l.length≤140737488355328:=by rw [List.flatten_cons,List.length_append] at B;omega
  have D:(a++l).length+g.flatten.length≤140737488355328:=by rw [List.flatten_cons,List.length_append] at B;rw [List.length_append];omega
  have A:=p a w _ (g.map fun l=>Value.string (bs l)).toArray s r t b;have H:((((l::g).map fun l=>Value.string (bs l)).toArray).extract 1 (((l::g).map fun l=>Value.string (bs l)).toArray).size)=(g.map fun l=>Value.string (bs l)).toArray:=by simp [List.take_of_length_le]
  have I:((((l::g).map fun l=>Value.string (bs l)).toArray).getD 0 undef)= .string (bs l):=by simp
  have m:i < w.heap.size:=(Array.getElem?_eq_some_iff.1 b).1;refine LoneTo.goes (n:=30) ?_;simp only [gn,od,Tryz.f63]
  s_c stepG_block
  s_c stepG_seq
  s_reg
  s_op
  s_op
  s_op
  s_op
  s_c stepG_region_end
  s_c stepG_seq
  s_reg
  s_stop
  refine LoneTo.step (step_lone_select_recv_buf (c:=i) (z:= .string ⟨#[]⟩) (stepG_comm (cases:=#[rcase i (.string ⟨#[]⟩)]) (blocking:=false) (shape:= .select) (w':=w) rfl rfl (by decide) (by simp [go_sem,rcase,Act.eval,execOp])) b (by simp)) ?_;rw [H,I];rw [Frame.finish_at]
  walk_nrm
  have k:=heap_setChan w i 3 (g.map fun l=>Value.string (bs l)).toArray false s (r+1) u m;obtain ⟨L,J⟩:∃L,w.setChan i 3 (g.map fun l=>Value.string (bs l)).toArray false s (r+1) u=L:=⟨_,rfl⟩;rw [J] at A k ⊢;clear J Y b t H I m;refine LoneTo.goes (n:=30) ?_
  s_op
  s_op
  s_c stepG_region_end
  s_c stepG_block
  s_cond true
  s_c stepG_seq
  s_reg
  s_op
  s_op
  s_c stepG_region_end
  s_reg
  s_op
  s_op
  s_stop
  refine LoneTo.step (step_solo_go rfl (stepG_enter (f:=96) (args:=#[V,.string (bs l)]) (w':=L) rfl rfl (by decide) (by simp [go_sem,Act.eval,execOp]))) ?_;refine wV (X a l L A S C) (fun _ _ h=>by obtain ⟨⟨_,h⟩,_⟩:=h;cases h) (fun _ h=>by obtain ⟨⟨_,h⟩,_⟩:=h;cases h) fun v w2 O=>?_;obtain ⟨_,P,Q⟩:=O;have E:=Q _ k;rw [Frame.finish_at]
  walk_nrm
  refine LoneTo.goes (n:=30) ?_
  s_c stepG_region_end
  s_c stepG_inBlock
  s_c stepG_inBlock
  s_c stepG_inLoop
  s_stop
  exact ih (a++l) w2 s (r+1) _ _ _ _ _ _ _ _ _ _ _ _ _ _ P E (fun x hx=>Z x (List.mem_cons_of_mem _ hx)) D (fun j U T h1 O=>K j U T (by rw [List.flatten_cons,←List.append_assoc];exact h1) O)
theorem uV (b:List UInt8→World→Prop) (sb c s r:Nat) (j:Bool) (y:Value) (i:List (List UInt8)) (a:List UInt8) (w:World) (m:List Frame)
  (D:∀a l w,b a w→l.length≤1048576→a.length+l.length≤140737488355328→Calls Tryz.prog 96 #[y,.string (bs l)] w fun e f=>(∃v,e= .returned v)∧b (a++l) f∧∀o,w.heap[c]? =some o→f.heap[c]? =some o)
  (d:∀a w,b a w→w.cell? ⟨sb,3,none⟩=some (.chan (some c)))
  (h:∀a w k g s r,b a w→w.heap[c]? =some (.chan 3 k false s r j)→b a (w.setChan c 3 g false s (r+1) j))
  (C:b a w) (t:w.heap[c]? =some (.chan 3 (i.map fun l=>Value.string (bs l)).toArray false s r j)) (E:∀l∈i,l.length≤1048576) (q:a.length+i.flatten.length≤140737488355328):
  LoneTo Tryz.prog (fun z f=>∃e p,z=G p m∧(e= .returned (.tuple #[])∧∃x u,b (a++i.flatten) f∧f.heap[c]? =some (.chan 3 #[] false x u j))∧p.kind= .deferred∧p.going Tryz.prog f e)
   (G ((CG 63).at ⟨#[.pointer (some ⟨sb,0,none⟩),y,undef,undef,undef,undef,undef,undef,undef,undef,undef,undef,undef,undef,undef,undef],[]⟩ [.code (.block 0 (.loop (gn Tryz.f63)))]) m) w:=by
 refine LoneTo.goes (n:=2) ?_
 s_c stepG_block
 s_c stepG_loop
 s_stop
 exact Cv b sb c j y m _ D d h i a w s r _ _ _ _ _ _ _ _ _ _ _ _ _ _ C t E q (fun f x u A B=>⟨x,u,A,B⟩)
theorem tQ (b:List UInt8→World→Prop) (sb d s r:Nat) (m:Bool) (n:Value) (k:List (List UInt8)) (a:List UInt8) (u:FrameMode) (w:World)
  (A:∀a l w,b a w→l.length≤1048576→a.length+l.length≤140737488355328→Calls Tryz.prog 96 #[n,.string (bs l)] w fun e g=>(∃v,e= .returned v)∧b (a++l) g∧∀o,w.heap[d]? =some o→g.heap[d]? =some o)
  (f:∀a w,b a w→w.cell? ⟨sb,3,none⟩=some (.chan (some d)))
  (j:∀a w p i s r,b a w→w.heap[d]? =some (.chan 3 p false s r m)→b a (w.setChan d 3 i false s (r+1) m))
  (z:b a w) (t:w.heap[d]? =some (.chan 3 (k.map fun l=>Value.string (bs l)).toArray false s r m)) (D:∀l∈k,l.length≤1048576) (q:a.length+k.flatten.length≤140737488355328):
  CallsD Tryz.prog 63 #[.pointer (some ⟨sb,0,none⟩),n] u w fun e u' g=>u'=u∧e= .returned (.tuple #[])∧∃H G,b (a++k.flatten) g∧g.heap[d]? =some (.chan 3 #[] false H G m):=by
 intro c x F;subst F
 have e:Frame.enter Tryz.prog 63 #[.pointer (some ⟨sb,0,none⟩),n] .deferred=(CG 63).at ⟨#[.pointer (some ⟨sb,0,none⟩),n,undef,undef,undef,undef,undef,undef,undef,undef,undef,undef,undef,undef,undef,undef],[]⟩ [.code (.block 0 (.loop (gn Tryz.f63)))]:=by
  simp [Frame.enter,Frame.at,Tryz.func63,CG,base,Tryz.f63,gn,od]
 obtain ⟨_,g,E,I,y,rfl,⟨rfl,h⟩,C,B⟩:=uV b sb d s r m n k a w (c::x) A f j z t D q;rw [e];exact ⟨.returned (.tuple #[]),c.mode,g,y,⟨rfl,rfl,h⟩,E,C,B⟩
theorem AK {w:World} {g:Nat} (n:Nat):aF (fun k=>k=g) w (w.freeze ⟨g,0,none⟩ n):=by
 obtain ⟨a,b,c⟩:(∀k,k≠g→(w.freeze ⟨g,0,none⟩ n).heap[k]? =w.heap[k]?)∧(w.freeze ⟨g,0,none⟩ n).heap.size=w.heap.size∧dI w (w.freeze ⟨g,0,none⟩ n):=by
  unfold World.freeze
  split
  ·exact ⟨fun _ _=>rfl,rfl,dI.refl w⟩
  ·refine ⟨fun k d=>?_,by simp,⟨rfl,rfl,rfl⟩⟩
   show (w.heap.modify g _)[k]? =_;rw [Array.getElem?_modify,if_neg (fun e=>d e.symm)]
 exact ⟨by rw [b];exact Nat.le_refl _,fun k _ f=>a k f,c⟩
theorem Aj (b g a:Nat) (d:Array Value) (s:Nat×Nat) (p:Option Addr) (l:List UInt8) (w:World) (h:l≠[]) (t:w.heap[b]? =some (.cells #[.pointer p,.slice (some ⟨g,0,none⟩) l.length a] 133 (0,0))) (u:w.heap[g]? =some (.cells d 5 s)) (q:l.length≤a) (f:a≤maxLen) (m:d.size=a) (c:∀j x,l[j]? =some x→w.cell? ((⟨g,0,none⟩:Addr).add j)=some (.int .u8 x.toNat)):
  Calls Tryz.prog 64 #[.pointer (some ⟨b,0,none⟩)] w fun e y=>e= .returned (.string (bs l))∧w.drew.freeze ⟨g,0,none⟩ l.length=y:=by
 have o:l.length≠0:=by simpa using h
 have z:w.drew.cell? ⟨b,1,none⟩=some (.slice (some ⟨g,0,none⟩) l.length a):=by
  have:w.drew.heap[b]? =some (.cells #[.pointer p,.slice (some ⟨g,0,none⟩) l.length a] 133 (0,0)):=t;rw [Lib.cell_of_heap this];rfl
 have i:(Builtin.unsafeSliceData_ #[114] (Tryz.lays169_ren.t 127) #[.slice (some ⟨g,0,none⟩) l.length a]).run Tryz.prog w.drew= .ok (.pointer (some ⟨g,0,none⟩)) w.drew:=
  Lib.run_unsafeSliceData_row _ _ _ _ _ _ (by omega)
 have k:(Builtin.unsafeString_ #[(Tryz.lays169_ren.t 127),3] 9 #[.pointer (some ⟨g,0,none⟩),.int .i64 l.length]).run Tryz.prog w.drew= .ok (.string ⟨l.toArray⟩) (w.drew.freeze ⟨g,0,none⟩ l.length):=by
  refine Lib.run_unsafeString_row w.drew _ 3 9 5 Tryz.lays169.t127 Tryz.Builder_Extra_169.cellsByte g d.size (by have n:w.drew.heap[g]? =some (.cells d 5 s):=u;simp [World.shape?,n]) l h (by omega) (by unfold maxLen at f;omega) ?_;exact fun j x v=>c j x v
 simp only [Tryz.lays169_ren] at i k;clear t u q f m c h o;have r:=Tryz.lays169.mixed;go_enter Tryz.func64,Tryz.ntmps64;go_wp2_with fail
 go_region_o
 all_goals (go_wp2;go_ret;exact ⟨rfl,rfl⟩)
theorem Cn (b:Nat) (p:Option Addr) (w:World) (f:w.heap[b]? =some (.cells #[.pointer p,.slice none 0 0] 133 (0,0))):
  Calls Tryz.prog 64 #[.pointer (some ⟨b,0,none⟩)] w fun e g=>e= .returned (.string (bs []))∧w.drew=g:=by
 have c:=Any.unsafeString_none Tryz.lays169 Tryz.Builder_Extra_169
 have h:w.drew.cell? ⟨b,1,none⟩=some (.slice none 0 0):=by
  have:w.drew.heap[b]? =some (.cells #[.pointer p,.slice none 0 0] 133 (0,0)):=f;rw [Lib.cell_of_heap this];rfl
 have a:(Builtin.unsafeSliceData_ #[114] (Tryz.lays169_ren.t 127) #[.slice none 0 0]).run Tryz.prog w.drew= .ok (.pointer none) w.drew:=rfl;simp only [Tryz.lays169_ren] at a c;clear f;have d:=Tryz.lays169.mixed;go_enter Tryz.func64,Tryz.ntmps64;go_wp2_with fail
 go_region_o
 all_goals (go_wp2;go_ret;exact ⟨rfl,rfl⟩)
theorem Ai (b g a:Nat) (p:Option Addr) (w:World) (c:a≠0) (i:w.heap[b]? =some (.cells #[.pointer p,.slice (some ⟨g,0,none⟩) 0 a] 133 (0,0))):
  Calls Tryz.prog 64 #[.pointer (some ⟨b,0,none⟩)] w fun e j=>e= .returned (.string (bs []))∧w.drew=j:=by
 have f:=Any.unsafeString_none Tryz.lays169 Tryz.Builder_Extra_169
 have k:w.drew.cell? ⟨b,1,none⟩=some (.slice (some ⟨g,0,none⟩) 0 a):=by
  have:w.drew.heap[b]? =some (.cells #[.pointer p,.slice (some ⟨g,0,none⟩) 0 a] 133 (0,0)):=i;rw [Lib.cell_of_heap this];rfl
 have d:(Builtin.unsafeSliceData_ #[114] (Tryz.lays169_ren.t 127) #[.slice (some ⟨g,0,none⟩) 0 a]).run Tryz.prog w.drew= .ok (.pointer (some ⟨g,0,none⟩)) w.drew:=
  Lib.run_unsafeSliceData_row _ _ _ _ _ _ c
 simp only [Tryz.lays169_ren] at d f;clear i c;have h:=Tryz.lays169.mixed;go_enter Tryz.func64,Tryz.ntmps64;go_wp2_with fail
 go_region_o
 all_goals (go_wp2;go_ret;exact ⟨rfl,rfl⟩)
theorem uT (b g:Nat) (p:Option Addr) (a:Array Value) (k:Nat×Nat) (w:World) (c:w.heap[b]? =some (.cells #[.pointer p,.slice (some ⟨g,0,none⟩) 0 0] 133 (0,0))) (l:w.heap[g]? =some (.cells a 5 k)):
  Calls Tryz.prog 64 #[.pointer (some ⟨b,0,none⟩)] w fun e q=>e= .returned (.string (bs []))∧Below w.heap.size w q:=by
 have f:=Any.unsafeString_none Tryz.lays169 Tryz.Builder_Extra_169;have i:=ah c
 have n:w.drew.cell? ⟨b,1,none⟩=some (.slice (some ⟨g,0,none⟩) 0 0):=by
  have:w.drew.heap[b]? =some (.cells #[.pointer p,.slice (some ⟨g,0,none⟩) 0 0] 133 (0,0)):=c;rw [Lib.cell_of_heap this];rfl
 have d:(Builtin.unsafeSliceData_ #[114] (Tryz.lays169_ren.t 127) #[.slice (some ⟨g,0,none⟩) 0 0]).run Tryz.prog w.drew= .ok (.pointer (some ⟨w.drew.heap.size,0,none⟩)) (w.drew.alloc (.view ⟨g,0,none⟩ 5)):=
  Lib.run_unsafeSliceData_zero w.drew _ _ 5 Tryz.lays169.t127 ⟨g,0,none⟩ 0 (5,a.size) (by have h:w.drew.heap[g]? =some (.cells a 5 k):=l;simp [World.shape?,h])
 have o:(w.drew.alloc (.view ⟨g,0,none⟩ 5)).cell? ⟨b,1,none⟩=some (.slice (some ⟨g,0,none⟩) 0 0):=by
  have:(w.drew.alloc (.view ⟨g,0,none⟩ 5)).heap[b]? =_:=(Lib.alloc_old w.drew _ b i).trans c;rw [Lib.cell_of_heap this];rfl
 have s:(w.alloc (.view ⟨g,0,none⟩ 5)).drew.cell? ⟨b,1,none⟩=some (.slice (some ⟨g,0,none⟩) 0 0):=o;have r:w.cell? ⟨b,1,none⟩=some (.slice (some ⟨g,0,none⟩) 0 0):=n;have m:Hid (Below w.heap.size w (w.drew.alloc (.view ⟨g,0,none⟩ 5))):=Lib.hid ((Below.drew (Below.refl _ w)).alloc (Nat.le_refl _) _);simp only [Tryz.lays169_ren] at d f;clear c l;have j:=Tryz.lays169.mixed;go_enter Tryz.func64,Tryz.ntmps64;go_wp2_with fail
 go_region_o
 all_goals (go_wp2;go_ret;exact ⟨rfl,m.out⟩)
theorem lC (d b:Nat) (v:Value) (a:List UInt8) (w:World) (h:jb d w b v a):
  Calls Tryz.prog 64 #[.pointer (some ⟨b,0,none⟩)] w fun e i=>e= .returned (.string (bs a))∧aF (fun k=>v.ownBlock=some k) w i:=by
 obtain ⟨p,_,l⟩:=h.blk
 rcases h.row.2 with ⟨e,D⟩ | ⟨g,c,f,r,e,A,u,B,o,m,n,q⟩
 ·obtain rfl:a=[]:=List.length_eq_zero_iff.1 D;subst e;refine (Cn b p w l).mono ?_;rintro e i ⟨rfl,rfl⟩;exact ⟨rfl,aF.below (Below.drew (Below.refl _ w))⟩
 ·subst e
  by_cases s:a=[]
  ·subst s
   by_cases t:c=0
   ·subst t;refine (uT b g p f r w l u).mono ?_;rintro e i ⟨rfl,z⟩;exact ⟨rfl,aF.below z⟩
   ·refine (Ai b g c p w t l).mono ?_;rintro e i ⟨rfl,rfl⟩;exact ⟨rfl,aF.below (Below.drew (Below.refl _ w))⟩
  ·refine (Aj b g c f r p a w s l u o m (by simpa using n) ?_).mono ?_
   ·intro j x C;have:=h.row.cells (g:=g) rfl j (.int .u8 x.toNat) (by simp [Lib.byteCells,C]);exact this
   ·rintro e i ⟨rfl,rfl⟩;refine ⟨rfl,?_⟩;have y:aF (fun k=>k=g) w w.drew:=aF.below (Below.drew (Below.refl _ w));exact (y.trans (AK a.length) (fun _ _ e=>e)).mono (fun k _ e=>by rw [e];rfl)
theorem la (l:List (aR×Value)) (k i:Nat) (h:k < l.length) (b:i < 5):(fv l)[k * 5+i]? =(aV l[k].1 l[k].2)[i]? :=by
 induction l generalizing k with
 | nil=>simp at h
 | cons x l ih=>
  show ((aV x.1 x.2).toList++fv l)[k * 5+i]? =_;have a:(aV x.1 x.2).toList.length=5:=rfl
  cases k with
  | zero=>
   rw [List.getElem?_append_left (by rw [a];omega),Array.getElem?_toList];simp
  | succ k=>
   rw [List.getElem?_append_right (by rw [a];omega),a,show (k+1) * 5+i - 5=k * 5+i by omega]
   exact ih k (by simpa using h)
theorem wE.cells {w:World} {a:Option Addr} {n u:Nat} {f:List aR} (h:wE w (.slice a n u) f):n=f.length∧∀k (C:k < f.length),∃b d p v,a=some ⟨b,d,none⟩∧b < w.heap.size∧
  w.cell? ⟨b,d+k * 5,none⟩=some (.int .i64 f[k].id)∧w.cell? ⟨b,d+k * 5+1,none⟩=some (.int .i64 f[k].time)∧w.cell? ⟨b,d+k * 5+2,none⟩=some (.string (bs f[k].frm))∧
  w.cell? ⟨b,d+k * 5+3,none⟩=some (.slice p f[k].tos.length v)∧w.cell? ⟨b,d+k * 5+4,none⟩=some (.string (bs f[k].body))∧
  ∀j (y:j < f[k].tos.length),∃c o,p=some ⟨c,o,none⟩∧c < w.heap.size∧w.cell? ⟨c,o+j,none⟩=some (.string (bs f[k].tos[j])):=by
 obtain ⟨l,F,J,K⟩:=h;subst F;obtain ⟨L,A,e,H⟩:=J.shape;injection e with e1 e2 e3;subst e1 e3;refine ⟨by rw [e2,List.length_map],fun k C=>?_⟩
 have m:k < l.length:=by simpa using C
 have E:(l.map (·.1))[k]=l[k].1:=by simp
 rw [E];obtain ⟨t,v,G,z⟩:=(K l[k] (List.getElem_mem m)).one
 have g:∀i,i < 5→∃b d,a=some ⟨b,d,none⟩∧b < w.heap.size∧w.cell? ⟨b,d+k * 5+i,none⟩=(aV l[k].1 l[k].2)[i]? :=fun i s=>by
  obtain ⟨b,d,e,x,h⟩:=H k i m s;exact ⟨b,d,e,x,by rw [Nat.add_assoc,h,la l k i m s]⟩
 obtain ⟨b,d,B,x,N⟩:=g 0 (by omega)
 have q:∀i,i < 5→w.cell? ⟨b,d+k * 5+i,none⟩=(aV l[k].1 l[k].2)[i]? :=fun i s=>by
  obtain ⟨M,D,r,_,h⟩:=g i s;rw [B] at r;injection r with e;injection e with e1 e2;subst e1 e2;exact h
 refine ⟨b,d,t,v,B,x,q 0 (by omega),q 1 (by omega),q 2 (by omega),?_,q 4 (by omega),fun j y=>?_⟩
 ·rw [q 3 (by omega),←G];rfl
 ·obtain ⟨c,o,e,I,h⟩:=z j y;exact ⟨c,o,e,I,by rw [h,dh _ _ y]⟩
end Go.Proofs.YtofpegbpgkkgkaaGreatDoor
