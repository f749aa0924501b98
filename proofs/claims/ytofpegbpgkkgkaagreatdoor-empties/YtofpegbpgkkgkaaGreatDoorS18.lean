import Derived.Test.YtofpegbpgkkgkaaGreatDoorS14
import Derived.Test.YtofpegbpgkkgkaaGreatDoorS16
import Derived.Test.YtofpegbpgkkgkaaGreatDoorS11
import Derived.Conc.SmallLaws
namespace Go.Proofs.YtofpegbpgkkgkaaGreatDoor
set_option maxHeartbeats 8000000
set_option maxRecDepth 1000000
open Go.RowKit
def JN (c:bX) (s:bG) (name shown:List UInt8) (size:Nat) (z:Int) (s':bG) (ls':List (List UInt8)):Prop:=
 z=0∧s'=s∧ls'=[zm]∨z=1∧s'=s∧ls'=[G8]∨z=2∧s'={s with over:=true}∧ls'=[G7]∨z=3∧s'=s∧ls'=[jD]∨z=4∧s'={s with tx:=none}∧ls'=[jD]∨(∃t,s.tx=some t∧z=5∧s'={s with tx:=some {t with body:=some ⟨[],false,false⟩}}∧ls'=[zl])∨z=6∧s'={s with greeted:=true,tx:=none}∧ls'=[[50,53,48,32]++cQ c++[13,10]]∨z=7∧s'={s with greeted:=true,tx:=none}∧ls'=[[50,53,48,45]++cQ c++[13,10],[50,53,48,45,83,73,90,69,32]++Lib.itoa c.size++[13,10],[50,53,48,32,65,85,84,72,32,80,76,65,73,78,13,10]]∨z=8∧s'=(pW c s shown).1∧ls'=(pW c s shown).2∨z=9∧s'=(lV c s name (size:Int)).1∧ls'=(lV c s name (size:Int)).2∨∃t,s.tx=some t∧t.body=none∧name.length≤1048576∧t.tos.length≤10∧z=10∧s'={s with tx:=some {t with tos:=cY t.tos c.most (s.nets || s.known || dM c name) name}}∧ls'=[b9 t.tos c.most (s.nets || s.known || dM c name) name]
section
variable {A:Nat→Prop} {pp pb sb ch:Nat} {vw:Value} {w:World} {s:bG} {E:Nat→Prop} {c:bX} {ls:List (List UInt8)}
theorem cI.ready (h:cI w A pp pb sb ch vw ls s) (b:Nat):Calls Tryz.prog 141 #[.pointer (some ⟨sb,0,none⟩),.int .i64 (b:Int)] w fun e n=>e= .returned (.bool (fO s b))∧w=n:=by
 obtain ⟨m,f,d⟩:=h.ex;unfold fO
 cases i:s.tx with
 | none=>
  rw [i] at d;have d:m= .pointer none:=d;subst d;exact Dw sb ch _ ls b s.greeted w f rfl rfl
 | some t=>
  rw [i] at d;obtain ⟨l,u,r,rfl,q,g,p,o⟩:=d;obtain ⟨a,j,k⟩:=aE (aF g.row);exact Dx sb ch l t.tos.length j a _ ls b s.greeted w f rfl rfl ((g.cell 1).trans (by rw [k];rfl))
theorem cP.ret {d:World} {b:bG} {a:List (List UInt8)} {e:Ending} (h:cP A pp pb sb ch vw w b a e d):e= .returned (.tuple #[]):=h.1
theorem Dp (h:cI w A pp pb sb ch vw [] s) (t:gg E w pp c) (_hd:∀k,E k→¬A k) (d b:List UInt8) (f:Nat) (a:Nat) (r:fO s a=false):
  Calls Tryz.prog 102 #[.pointer (some ⟨sb,0,none⟩),.agg #[.int .i64 (a:Int),.string (bs d),.int .i64 (f:Int),.string (bs b)]] w (cP A pp pb sb ch vw w s [ni]):=by
 obtain ⟨g,j⟩:∃g:World,w.alloc (.cells #[.int .i64 (a:Int),.string (bs d),.int .i64 (f:Int),.string (bs b)] 179)=g:=⟨_,rfl⟩;have l:Below w.heap.size w g:=by rw [←j];exact (Below.refl _ _).alloc (Nat.le_refl _) _
 have i:g.heap[w.heap.size]? =some (.cells #[.int .i64 (a:Int),.string (bs d),.int .i64 (f:Int),.string (bs b)] 179 (0,0)):=by rw [←j];exact heap_alloc_new w _
 have z:g.cell? ⟨w.heap.size,0,none⟩=some (.int .i64 (a:Int)):=by rw [Lib.cell_of_heap i];rfl
 have B:g.cell? ⟨w.heap.size,1,none⟩=some (.string (bs d)):=by rw [Lib.cell_of_heap i];rfl
 have C:g.cell? ⟨w.heap.size,2,none⟩=some (.int .i64 (f:Int)):=by rw [Lib.cell_of_heap i];rfl
 have D:g.cell? ⟨w.heap.size,3,none⟩=some (.string (bs b)):=by rw [Lib.cell_of_heap i];rfl
 have o:=h.below l;have q:=t.below l;have n:Hid (Calls Tryz.prog 141 #[.pointer (some ⟨sb,0,none⟩),.int .i64 (a:Int)] g fun e y=>e= .returned (.bool false)∧g=y):=Lib.hid (by rw [←r];exact o.ready a);have x:=Lib.hid (o.told1 [53,48,51,32,102,105,114,115,116] (by decide));have m:=Lib.hid l;clear h t o q l i _hd;go_enter Tryz.func102,Tryz.ntmps102;go_wp2_with fail
 refine n.out.mono ?_;rintro e F ⟨rfl,rfl⟩;go_wp2_with fail
 refine x.out.mono ?_;rintro e G p;have r:=p.ret;subst r;have u:=Lib.hid p;clear p;go_wp2_with fail
 refine bodyPost_ret (v:= .tuple #[]) (by simp [results,Tryz.results102,go_sem]) rfl ?_;exact cP.from m.out u.out
theorem gz (h:cI w A pp pb sb ch vw [] s) (C:gg E w pp c) (v:∀k,E k→¬A k) (b a:List UInt8) (d:Nat) {j:Nat} {z:Int} {F:bG} {o:List (List UInt8)} (D:(j:Int)=z) (y:fO s j=true) (J:JN c s b a d z F o):
  Calls Tryz.prog 102 #[.pointer (some ⟨sb,0,none⟩),.agg #[.int .i64 z,.string (bs b),.int .i64 (d:Int),.string (bs a)]] w (cP A pp pb sb ch vw w F o):=by
 obtain ⟨l,n⟩:∃l:World,w.alloc (.cells #[.int .i64 z,.string (bs b),.int .i64 (d:Int),.string (bs a)] 179)=l:=⟨_,rfl⟩;have p:Below w.heap.size w l:=by rw [←n];exact (Below.refl _ _).alloc (Nat.le_refl _) _
 have m:l.heap[w.heap.size]? =some (.cells #[.int .i64 z,.string (bs b),.int .i64 (d:Int),.string (bs a)] 179 (0,0)):=by rw [←n];exact heap_alloc_new w _
 have L:l.cell? ⟨w.heap.size,0,none⟩=some (.int .i64 z):=by rw [Lib.cell_of_heap m];rfl
 have M:l.cell? ⟨w.heap.size,1,none⟩=some (.string (bs b)):=by rw [Lib.cell_of_heap m];rfl
 have N:l.cell? ⟨w.heap.size,2,none⟩=some (.int .i64 (d:Int)):=by rw [Lib.cell_of_heap m];rfl
 have O:l.cell? ⟨w.heap.size,3,none⟩=some (.string (bs a)):=by rw [Lib.cell_of_heap m];rfl
 have f:=h.below p;have g:=C.below p;have r:Hid (Calls Tryz.prog 141 #[.pointer (some ⟨sb,0,none⟩),.int .i64 z] l fun e K=>e= .returned (.bool true)∧l=K):=Lib.hid (by rw [←D,←y];exact f.ready j)
 rcases J with ⟨rfl,rfl,rfl⟩ | ⟨rfl,rfl,rfl⟩ | ⟨rfl,rfl,rfl⟩ | ⟨rfl,rfl,rfl⟩ | ⟨rfl,rfl,rfl⟩ | ⟨t,B,rfl,rfl,rfl⟩ | ⟨rfl,rfl,rfl⟩ | ⟨rfl,rfl,rfl⟩ | ⟨rfl,rfl,rfl⟩ | ⟨rfl,rfl,rfl⟩ | ⟨t,B,x,I,H,rfl,rfl,rfl⟩;have i:=Lib.hid (f.told1 [53,48,48,32,119,104,97,116] (by decide))
 rotate_left
 have i:=Lib.hid (f.told1 [53,48,49,32,104,111,119] (by decide))
 rotate_left
 have i:=Lib.hid (f.quit)
 rotate_left
 have i:=Lib.hid (f.told1 [50,53,48,32,111,107] (by decide))
 rotate_left
 have i:=Lib.hid (f.reset)
 rotate_left
 have i:=Lib.hid (f.data B)
 rotate_left
 have i:=Lib.hid (f.greet g v)
 rotate_left
 have i:=Lib.hid (f.more g v)
 rotate_left
 have i:=Lib.hid (f.know g a)
 rotate_left
 have i:=Lib.hid (f.mail g b (d:Int))
 rotate_left
 have i:=Lib.hid (f.rcpt g B x b I H)
 rotate_left
 all_goals
  have q:=Lib.hid p;clear h C f g p m v D;go_enter Tryz.func102,Tryz.ntmps102;go_wp2_with fail
  refine r.out.mono ?_;rintro e P ⟨rfl,rfl⟩;go_wp2_with fail
  refine i.out.mono ?_;rintro e Q u;have y:=u.ret;subst y;have G:=Lib.hid u;clear u;go_wp2_with fail
  refine bodyPost_end (results_none rfl _ _ _) rfl ?_;exact cP.from q.out G.out
end
def lF (w:World) (v:Value) (l:List UInt8):Prop:=w.ownsRow 0 5 1 v l.length (Lib.byteCells l)
theorem aL.drew' {b:Nat} {w a:World} (h:aL b w a):aL b w a.drew:=⟨h.1,h.2,h.3.trans ⟨rfl,rfl,rfl⟩⟩
theorem lF.parts {w:World} {v:Value} {l:List UInt8} (h:lF w v l) (k:l≠[]):∃g a b,v= .slice (some ⟨g,0,none⟩) l.length a∧w.heap[g]? =some (.cells b 5 (0,0))∧l.length≤a∧a≤maxLen∧b.size=a∧b.toList.take l.length=Lib.byteCells l:=by
 rcases h.2 with ⟨_,d⟩ | ⟨g,a,b,e,_,j,f,i,m,c⟩
 ·exact absurd (List.length_eq_zero_iff.1 d) k
 ·exact ⟨g,a,b,e,j,f,i,by omega,by rw [Nat.mul_one] at c;exact c⟩
theorem lF.mk {w:World} {l:List UInt8} {g cap:Nat} {a:Array Value} (e:w.heap[g]? =some (.cells a 5 (0,0))) (b:l.length≤cap) (c:cap≤maxLen) (f:a.size=cap) (d:a.toList.take l.length=Lib.byteCells l):lF w (.slice (some ⟨g,0,none⟩) l.length cap) l:=
 ⟨by rw [Nat.mul_one];exact gR l,.inr ⟨g,cap,a,rfl,Nat.zero_le _,e,b,c,by omega,by rw [Nat.mul_one];exact d⟩⟩
theorem yR {a:Array Value} {l:List UInt8} (h:a.toList.take l.length=Lib.byteCells l) (j:Nat) (b:j < l.length):a[j]? =some (.int .u8 ((l.getD j 0).toNat:Int)):=by
 rw [←Array.getElem?_toList,←List.getElem?_take_of_lt b,h,Lib.byteCells,List.getElem?_map,List.getElem?_eq_getElem b,List.getD_eq_getElem?_getD,List.getElem?_eq_getElem b];rfl
def lk (l:List UInt8):List UInt8:=if 102 < l.length then l.take 101++[l.getD 102 0] else l
theorem DI (l:List UInt8):(lk l).length≤102:=by
 unfold lk
 split
 ·rename_i h
  simp only [List.length_append,List.length_take,List.length_cons,List.length_nil];omega
 ·omega
structure ll (w:World) (sb:Nat) (C:Array Value) (v:Value) (l:List UInt8):Prop where
 blk:w.heap[sb]? =some (.cells C 130 (0,0))
 size:C.size=9
 at2:C[2]? =some v
 row:lF w v l
theorem ll.far {w:World} {sb:Nat} {C:Array Value} {v:Value} {l:List UInt8} (h:ll w sb C v l):v.ownBlock≠some sb:=fun e=>by
 obtain ⟨b,a⟩:=dm h.row e;rw [h.blk] at a;simp at a
theorem ll.below {w b:World} {sb:Nat} {C:Array Value} {v:Value} {l:List UInt8} (h:ll w sb C v l) (a:Below w.heap.size w b):ll b sb C v l:=⟨ae a h.blk,h.size,h.at2,aA h.row fun _ _ e _=>ae a e⟩
def oI (sb:Nat) (C:Array Value) (v:Value) (l':List UInt8) (w w':World):Prop:=
 ∃v',ll w' sb (C.setIfInBounds 2 v') v' l'∧aH (fun k=>k=sb∨v.ownBlock=some k) w w'∧∀k,v'.ownBlock=some k→v.ownBlock=some k∨w.heap.size≤k
theorem BJ (sb:Nat) (C:Array Value) (v:Value) (l:List UInt8) (w:World) (h:ll w sb C v l) (hl:l.length≤103) (t:1≤l.length):
  Calls Tryz.prog 98 #[.pointer (some ⟨sb,2,none⟩)] w fun e w'=>e= .returned (.tuple #[])∧oI sb C v (lk l) w w':=by
 obtain ⟨g,a,V,rfl,q,p1,Y,Z,y⟩:=h.row.parts (fun e=>by rw [e] at t;simp at t);have S:w.cell? ⟨sb,2,none⟩=some (.slice (some ⟨g,0,none⟩) l.length a):=by rw [Lib.cell_of_heap h.blk];exact h.at2
 have f2:=Lib.frozen_of_heap h.blk 2
 have r:C.setIfInBounds 2 (.slice (some ⟨g,0,none⟩) l.length a)=C:=by
  apply Array.ext_getElem?;intro i;rw [Array.getElem?_setIfInBounds]
  split
  ·rename_i H
   subst H;rw [h.at2,if_pos (by have:=h.size;omega)]
  ·rfl
 by_cases c:102 < l.length
 ·have I:l.length=103:=by omega
  obtain ⟨d,p⟩:∃d,l.getD 102 0=d:=⟨_,rfl⟩;obtain ⟨J,x⟩:∃J,l.getD 101 0=J:=⟨_,rfl⟩;have u:sb≠g:=fun e=>h.far (by rw [e];rfl);have M:w.drew.cell? ⟨g,101,none⟩=some (.int .u8 (J.toNat:Int)):=by show w.cell? _=_;rw [Lib.cell_of_heap q,←x];exact yR y 101 (by omega)
  have N:w.drew.cell? ⟨g,102,none⟩=some (.int .u8 (d.toNat:Int)):=by show w.cell? _=_;rw [Lib.cell_of_heap q,←p];exact yR y 102 (by omega)
  have fg:w.drew.frozen? ⟨g,101,none⟩=false:=Lib.frozen_of_heap q 101;have U:w.drew.cell? ⟨sb,2,none⟩=some (.slice (some ⟨g,0,none⟩) l.length a):=S;have H:(102:Int) < (l.length:Int):=by omega
  have X:(101:Int) < (l.length:Int):=by omega
  have z:aL g w ((w.setCell ⟨g,101,none⟩ (.int .u8 (d.toNat:Int))).drew):=((aL.refl _ _).setCell _).drew';have b:=heap_setCell_same w g 101 _ _ (.int .u8 (d.toNat:Int)) q;obtain ⟨f,n⟩:∃f:World,(w.setCell ⟨g,101,none⟩ (.int .u8 (d.toNat:Int))).drew=f:=⟨_,rfl⟩;have F:=Lib.hid n;replace b:(w.setCell ⟨g,101,none⟩ (.int .u8 (d.toNat:Int))).drew.heap[g]? =_:=b;rw [n] at z b;have m:=(z.2 sb u).trans h.blk;have E:Hid (lk l=l.take 101++[d]):=Lib.hid (by unfold lk;rw [if_pos c,p]);have G:aL sb f (f.setCell ⟨sb,2,none⟩ (.slice (some ⟨g,0,none⟩) 102 a)):=(aL.refl _ _).setCell _;have o:(l.take 101++[d]).length=102:=by simp only [List.length_append,List.length_take,List.length_cons,List.length_nil];omega
  have L:lF (f.setCell ⟨sb,2,none⟩ (.slice (some ⟨g,0,none⟩) 102 a)) (.slice (some ⟨g,0,none⟩) 102 a) (l.take 101++[d]):=by
   have:=lF.mk (l:=l.take 101++[d]) (w:=f.setCell ⟨sb,2,none⟩ (.slice (some ⟨g,0,none⟩) 102 a)) (cap:=a) ((G.2 g (Ne.symm u)).trans b) (by omega) Y (by simp [Z]) (by
    rw [o];apply List.ext_getElem?;intro j;rw [List.getElem?_take]
    by_cases P:j < 102
    ·rw [if_pos P,Array.getElem?_toList]
     by_cases s:j=101
     ·subst s;rw [Array.getElem?_setIfInBounds_self_of_lt (by omega),Lib.byteCells,List.getElem?_map,List.getElem?_append_right (by rw [List.length_take];omega),List.length_take,show 101 - min 101 l.length=0 by omega]
      rfl
     ·rw [Array.getElem?_setIfInBounds_ne (fun e=>s e.symm),yR y j (by omega)];rw [Lib.byteCells,List.getElem?_map,List.getElem?_append_left (by rw [List.length_take];omega),List.getElem?_take_of_lt (by omega),List.getElem?_eq_getElem (by omega),List.getD_eq_getElem?_getD,List.getElem?_eq_getElem (by omega)];rfl
    ·rw [if_neg P,List.getElem?_eq_none (by rw [gR];omega)])
   rw [o] at this;exact this
  have D:=Lib.hid L;have R:Hid (aH (fun k=>k=sb∨(Value.slice (some ⟨g,0,none⟩) l.length a).ownBlock=some k) w (f.setCell ⟨sb,2,none⟩ (.slice (some ⟨g,0,none⟩) 102 a))):=Lib.hid (((aH.same z).mono (fun k _ e=> .inr (by rw [e];rfl))).trans (aH.same G) (fun _ _ e=> .inl e));have A:=Lib.hid (heap_setCell_same f sb 2 _ _ (.slice (some ⟨g,0,none⟩) 102 a) m);have T:f.cell? ⟨sb,2,none⟩=some (.slice (some ⟨g,0,none⟩) l.length a):=by rw [Lib.cell_of_heap m];exact h.at2
  have W:=Lib.frozen_of_heap m 2;have K:=Lib.hid h.size;have O:(102:Int)≤(a:Int):=by omega
  clear h q b z G L m y n x p I o;go_enter Tryz.func98,Tryz.ntmps98;go_wp2_with fail
  go_region
  rw [F.out];go_wp2_with fail
  refine bodyPost_end (results_none rfl _ _ _) rfl ?_;exact ⟨rfl,.slice (some ⟨g,0,none⟩) 102 a,by rw [E.out];exact ⟨A.out,by rw [Array.size_setIfInBounds];exact K.out,by rw [Array.getElem?_setIfInBounds_self_of_lt (by have:=K.out;omega)],D.out⟩,R.out,fun k e=> .inl e⟩
 ·have E:Hid (lk l=l):=Lib.hid (by unfold lk;rw [if_neg c]);have H:¬(102:Int) < (l.length:Int):=by omega
  have Q:=Lib.hid h;have B:=Lib.hid r;clear h q y r;go_enter Tryz.func98,Tryz.ntmps98;go_wp2_with fail
  refine bodyPost_end (results_none rfl _ _ _) rfl ?_;exact ⟨rfl,_,by rw [E.out,B.out];exact Q.out,aH.refl _ _,fun k e=> .inl e⟩
def pK (l:List UInt8):Bool:=Lib.hasSuffix l [13,10]
def j4 (wait:List UInt8) (b:UInt8):List UInt8×Option (List UInt8×Bool):=
 if pK (wait++[b]) then ([],some (jw ((wait++[b]).take ((wait++[b]).length - 2)))) else (lk (wait++[b]),none)
def th (o:Option (List UInt8×Bool)):Value:=
 match o with
 | none=> .tuple #[.agg #[.string ⟨#[]⟩,.bool false],.bool false]
 | some x=> .tuple #[.agg #[.string (bs x.1),.bool x.2],.bool true]
def qQ (l:List UInt8):List Int:=l.map fun b=>(b.toNat:Int)
theorem yI (l:List UInt8):Lib.bytesOf (qQ l)=l:=by
 unfold Lib.bytesOf qQ;rw [List.map_map];conv=>rhs;rw [←List.map_id l]
 congr 1
 funext b
 simp
theorem AO (l:List UInt8) (i:Nat) (h:i < l.length):(qQ l).getD i 0=((l.getD i 0).toNat:Int):=by
 rw [List.getD_eq_getElem?_getD,List.getD_eq_getElem?_getD,qQ,List.getElem?_map,List.getElem?_eq_getElem h];rfl
theorem lF.by {w:World} {l:List UInt8} {g n cap:Nat} (h:lF w (.slice (some ⟨g,0,none⟩) n cap) l):qF w g l:=fun j a=>by
 obtain ⟨f,b,cur,e,d,_,_,_,c⟩:=h.parts (fun e=>by rw [e] at a;simp at a);injection e with e _ _;injection e with e;injection e with e _;subst e;rw [Lib.cell_of_heap d];exact yR c j a
theorem wD (l:List UInt8) (g a c:Nat) (w:World) (h:qF w g l) (b:l.length≤a) (k:l.length≤1048576) (j:w.heap[c]? =some (.cells #[.int .u8 13,.int .u8 10] 5 (2,3))):
  Calls Tryz.prog 97 #[.slice (some ⟨g,0,none⟩) l.length a,.slice (some ⟨c,0,none⟩) 2 2] w fun e f=>e= .returned (.tuple #[if pK l then .slice (some ⟨g,0,none⟩) (l.length - 2) a else .slice (some ⟨g,0,none⟩) l.length a,.bool (pK l)])∧f=w:=by
 refine (Tryz.bytes_CutSuffix g 0 l.length a c 0 2 2 (qQ l) [13,10] w (by simp [qQ]) rfl b (by omega) (fun i d=>?_) (fun i d=>?_)).mono ?_
 ·rw [Nat.zero_add,AO l i d];exact h i d
 ·rw [Nat.zero_add,Lib.cell_of_heap j];have:i=0∨i=1:=by omega
  rcases this with rfl | rfl <;> rfl
 ·rintro e f ⟨rfl,rfl⟩;refine ⟨?_,rfl⟩;unfold Lib.bytesTrimSuffix Lib.sliceTo;rw [yI,show Lib.bytesOf [13,10]=[13,10] from rfl];rfl
theorem ll.grow {w b:World} {sb:Nat} {C:Array Value} {v a:Value} {l i:List UInt8} (h:ll w sb C v l) (m:aH (fun k=>v.ownBlock=some k) w b) (f:lF b a i):ll (b.setCell ⟨sb,2,none⟩ a) sb (C.setIfInBounds 2 a) a i:=by
 have d:=m.some_ h.blk h.far;refine ⟨heap_setCell_same b sb 2 _ _ a d,by rw [Array.size_setIfInBounds];exact h.size,by rw [Array.getElem?_setIfInBounds_self_of_lt (by have:=h.size;omega)],bC f (aH.same ((aL.refl sb b).setCell _)) (fun g n e=>?_)⟩
 obtain ⟨j,c⟩:=dm f n;rw [e,d] at c;simp at c
theorem oI.fin {sb n:Nat} {C r:Array Value} {v i j:Value} {x:List UInt8} {w m h l y:World} {D:Array Value} (d:aH (fun k=>k=sb∨v.ownBlock=some k) w m) (c:Below m.heap.size m h) (s:∀k,i.ownBlock=some k→v.ownBlock=some k∨w.heap.size≤k) (b:r=C.setIfInBounds 2 i) (a:ll l sb (r.setIfInBounds 2 j) j x) (p:aH (fun k=>k=sb∨i.ownBlock=some k) h l) (q:∀k,j.ownBlock=some k→i.ownBlock=some k∨h.heap.size≤k) (A:w.heap.size≤n) (t:l.heap[n]? =some (.cells D 138 (0,0))) (o:aL n l y):oI sb C v x w y:=by
 have E:w.heap.size≤h.heap.size:=Nat.le_trans d.size c.size;refine ⟨j,⟨?_,?_,?_,?_⟩,?_,fun k f=>(q k f).elim (s k) (fun e=> .inr (by omega))⟩
 ·have:=(o.2 sb (fun e=>by have:=a.blk;rw [e,t] at this;simp at this)).trans a.blk;rw [b,Array.setIfInBounds_setIfInBounds] at this;exact this
 ·have:=a.size;rw [b] at this;simpa using this
 ·have:=a.at2;rw [b,Array.setIfInBounds_setIfInBounds] at this;exact this
 ·exact bC a.row (aH.same o) (fun g B e=>by
   obtain ⟨z,u⟩:=dm a.row B;rw [e,t] at u
   simp at u)
 ·exact ((d.trans (aH.below c:aH (fun _=>False) _ _) (fun _ _ e=>e.elim)).trans p (fun k f e=>e.elim .inl (fun e=>(s k e).elim .inr (fun e=>absurd f (by omega))))).trans (aH.same o) (fun k f e=>absurd f (by omega))
theorem B7 {A:Nat→Prop} {w b:World} {g h:Nat} (a:Lib.Utf8Tabs g h w) (c:aH A w b) (n:¬A g) (p:¬A h):Lib.Utf8Tabs g h b:=by
 have j:g < w.heap.size:=aC (a.1 0 (by decide));have l:h < w.heap.size:=aC (a.2 0 (by decide)).1;have m:∀o,b.cell? ⟨g,o,none⟩=w.cell? ⟨g,o,none⟩:=fun o=>World.cell?_of_block (c.block _ j n);have e:∀o,b.cell? ⟨h,o,none⟩=w.cell? ⟨h,o,none⟩:=fun o=>World.cell?_of_block (c.block _ l p);exact ⟨fun k f=>(m k).trans (a.1 k f),fun i d=>⟨(e _).trans (a.2 i d).1,(e _).trans (a.2 i d).2⟩⟩
theorem IC (sb:Nat) (C:Array Value) (v:Value) (l:List UInt8) (b:UInt8) (w:World) (h:ll w sb C v l) (hl:l.length≤102) (hu:Lib.Utf8Tabs 2 3 w) (d7:¬(2=sb∨v.ownBlock=some 2)) (u:¬(3=sb∨v.ownBlock=some 3)):
  Calls Tryz.prog 66 #[.pointer (some ⟨sb,2,none⟩),.int .u8 (b.toNat:Int)] w fun e w'=>e= .returned (th (j4 l b).2)∧oI sb C v (j4 l b).1 w w':=by
 obtain ⟨q,I⟩:∃q:World,w.alloc (.cells #[.string ⟨#[]⟩,.bool false] 138)=q:=⟨_,rfl⟩;have B0:Below w.heap.size w q:=by rw [←I];exact (Below.refl _ _).alloc (Nat.le_refl _) _
 have X0:q.heap[w.heap.size]? =some (.cells #[.string ⟨#[]⟩,.bool false] 138 (0,0)):=by rw [←I];exact heap_alloc_new w _
 have d8:q.heap.size=w.heap.size+1:=by rw [←I];simp
 have p:=h.below B0;have e0:=Utf8Tabs_below hu B0;have c6:q.cell? ⟨sb,2,none⟩=some v:=by rw [Lib.cell_of_heap p.blk];exact p.at2
 have c2:∀o:Obj,(q.alloc o).cell? ⟨sb,2,none⟩=some v:=fun o=>by rw [Lib.cell_of_heap (ae ((Below.refl _ q).alloc (Nat.le_refl _) o) p.blk)];exact p.at2
 obtain ⟨i,hi,e1,e2,e4⟩:=info_parts lx;obtain ⟨g,a,X,T,b1,V,O1⟩:=pv (P:=Tryz.prog) Tryz.underlying114 hi e1 e2 e4 rfl q (q.alloc (.cells #[.int .u8 (b.toNat:Int)] 5)) v (.int .u8 (b.toNat:Int)) l.length (Lib.byteCells l) p.row rfl ((Below.refl _ _).alloc (Nat.le_refl _) _) (heap_alloc_new q _) (by unfold maxLen;omega) (by omega)
 have R1:lF X (.slice (some ⟨g,0,none⟩) (l.length+1) a) (l++[b]):=by
  have e:Lib.byteCells (l++[b])=Lib.byteCells l++[.int .u8 (b.toNat:Int)]:=by simp [Lib.byteCells]
  unfold lF;rw [e,List.length_append];exact b1
 have c7:X.cell? ⟨sb,2,none⟩=some v:=by rw [Lib.cell_of_heap (V.some_ p.blk p.far)];exact p.at2
 have d0:=Lib.frozen_of_heap (V.some_ p.blk p.far) 2;have N:=p.grow V R1;have S2:aL sb X (X.setCell ⟨sb,2,none⟩ (.slice (some ⟨g,0,none⟩) (l.length+1) a)):=(aL.refl _ _).setCell _;obtain ⟨m,a8⟩:∃m:World,X.setCell ⟨sb,2,none⟩ (.slice (some ⟨g,0,none⟩) (l.length+1) a)=m:=⟨_,rfl⟩;rw [a8] at N S2
 have X2:m.heap[w.heap.size]? =some (.cells #[.string ⟨#[]⟩,.bool false] 138 (0,0)):=(S2.2 _ (by have:=ah h.blk;omega)).trans (V.some_ X0 (fun e=>by
  obtain ⟨Q,hq⟩:=dm p.row e;rw [X0] at hq
  simp at hq))
 have K2:aH (fun k=>k=sb∨v.ownBlock=some k) w m:=(((aH.below B0:aH (fun k=>k=sb∨v.ownBlock=some k) w q)).trans V (fun _ _ e=> .inr e)).trans (aH.same S2) (fun _ _ e=> .inl e);have b3:Lib.Utf8Tabs 2 3 m:=B7 hu K2 d7 u;have S:=Lib.run_convert_bytes_const (P:=Tryz.prog) m 114 5 #[.int .u8 13,.int .u8 10] 2 2 Tryz.underlying114 Tryz.underlying5;rw [show (#[Value.int .u8 13,Value.int .u8 10]:Array Value).size=2 from rfl] at S;have U:Below m.heap.size m (m.alloc (.cells #[.int .u8 13,.int .u8 10] 5 (2,3))):=(Below.refl _ _).alloc (Nat.le_refl _) _;have E3:=heap_alloc_new m (.cells #[.int .u8 13,.int .u8 10] 5 (2,3));obtain ⟨W3,a9⟩:∃W3:World,m.alloc (.cells #[.int .u8 13,.int .u8 10] 5 (2,3))=W3:=⟨_,rfl⟩;rw [a9] at S U E3;have A3:=N.below U;have X3:=ae U X2;have b4:=Utf8Tabs_below b3 U
 have s:(l++[b]).length≤a:=by
  obtain ⟨g',a7,Q,e,_,p1,_⟩:=R1.parts (by simp);injection e with _ _ e;omega
 have c8:m.cell? ⟨sb,2,none⟩=some (.slice (some ⟨g,0,none⟩) (l.length+1) a):=by rw [Lib.cell_of_heap N.blk];exact N.at2
 have a6:∀o:Obj,(m.alloc o).cell? ⟨sb,2,none⟩=some (.slice (some ⟨g,0,none⟩) (l.length+1) a):=fun o=>by rw [Lib.cell_of_heap (N.below ((Below.refl _ m).alloc (Nat.le_refl _) o)).blk];exact N.at2
 have G:=lF.by A3.row
 have H:=wD (l++[b]) g a m.heap.size W3 G s (by simp;omega) E3;have f:Hid (j4 l b=if pK (l++[b]) then ([],some (jw ((l++[b]).take ((l++[b]).length - 2)))) else (lk (l++[b]),none)):=Lib.hid rfl;obtain ⟨c,r⟩:∃c,l++[b]=c:=⟨_,rfl⟩;have J:c.length=l.length+1:=by rw [←r];simp
 rw [r] at A3 s G H f;rw [J] at H s;rw [d8] at T;have c4:=Lib.hid T;have a2:=Lib.hid K2;have B:=Lib.hid A3;have a0:=Lib.hid U;have E:=Lib.hid X3;have c5:=Lib.hid b4;have b8:=Lib.hid G;have a1:=Lib.hid H
 have HO:Hid (∀k,(Value.slice (some ⟨g,0,none⟩) (l.length+1) a).ownBlock=some k→v.ownBlock=some k∨w.heap.size≤k):=Lib.hid (fun k e=>by
  injection e with e;have e:g=k:=e;subst e
  exact O1.imp id (fun e=>by omega))
 have HC:=Lib.hid h.size;obtain ⟨av,cv,ev⟩:=aE (aF h.row);subst ev;clear h hu p e0 X0 B0 T b1 V O1 R1 N S2 X2 K2 b3 U E3 A3 X3 b4 G H r;go_enter Tryz.func66,Tryz.ntmps66
 go_wp2_with (first
  | (at_builtin;refine bB rfl _ _ 114 rfl _ _ (.slice (some ⟨g,0,none⟩) (l.length+1) a) X rfl rfl c4.out ?_)
  | fail)
 refine a1.out.mono ?_;rintro e w4 ⟨rfl,rfl⟩;obtain ⟨t,et⟩:∃t,pK c=t:=⟨_,rfl⟩;rw [et] at f ⊢;clear a1 et S c6 c2 c7 d0 c8 a6 I a8 a9
 cases t with
 | false=>
  simp only [Bool.false_eq_true,if_false] at f ⊢;have a3:=Lib.hid (BJ sb _ _ c w4 B.out (by omega) (by omega));go_wp2_with fail
  refine a3.out.mono ?_;rintro e d ⟨rfl,v5,n,K5,O5⟩
  have z:=K5.some_ E.out (fun e=>by
   rcases e with e | e
   ·have:=B.out.blk;rw [←e,E.out] at this;simp at this
   ·obtain ⟨Q,hq⟩:=dm B.out.row e;rw [E.out] at hq
    simp at hq)
  have p0:d.cell? ⟨w.heap.size,0,none⟩=some (.string ⟨#[]⟩):=by rw [Lib.cell_of_heap z];rfl
  have p1:d.cell? ⟨w.heap.size,1,none⟩=some (.bool false):=by rw [Lib.cell_of_heap z];rfl
  have q0:=Lib.frozen_of_heap z 0;have q1:=Lib.frozen_of_heap z 1;have a4:=Lib.hid z;have b5:=Lib.hid n;have c0:=Lib.hid K5;have c3:=Lib.hid O5;clear z n K5 O5 a3;go_wp2_with fail
  obtain ⟨r0,r1,rS⟩:=qC (x:= .string ⟨#[]⟩) (y:= .bool false) a4.out;refine bodyPost_ret (v:= .tuple #[.agg #[.string ⟨#[]⟩,.bool false],.bool false]) (by simp [results,Tryz.results66,go_sem,r0,r1]) rfl ?_;rw [f.out];exact ⟨rfl,oI.fin a2.out a0.out HO.out rfl b5.out c0.out c3.out (Nat.le_refl _) a4.out rS⟩
 | true=>
  simp only [if_true] at f ⊢;obtain ⟨L,u⟩:∃L,l.length+1 - 2=L:=⟨_,rfl⟩;rw [u];have M:Hid (j4 l b=([],some (jw (c.take L)))):=Lib.hid (by rw [f.out,J,u]);have b2:(c.take L).length=L:=by rw [List.length_take];omega
  have b0:qF w4 g (c.take L):=fun j hj=>by
   have d5:j < L:=by omega
   rw [b8.out j (by omega),List.getD_eq_getElem?_getD,List.getD_eq_getElem?_getD,List.getElem?_take_of_lt d5]
  have R:=AY (c.take L) g a w4 b0 (by omega) (by omega) c5.out;rw [b2] at R;have D:=Lib.hid R;obtain ⟨x,ex⟩:∃x,jw (c.take L)=x:=⟨_,rfl⟩;rw [ex] at D M;obtain ⟨tx,Z⟩:=x;simp only at D;clear R b0 ex b2 u f;go_wp2_with fail
  refine D.out.mono ?_;rintro e d ⟨rfl,K⟩;have n:=B.out.below K;have z:=ae K E.out;have d2:∀o:Obj,(d.alloc o).cell? ⟨sb,2,none⟩=some (.slice (some ⟨g,0,none⟩) (l.length+1) a):=fun o=>by rw [Lib.cell_of_heap (n.below ((Below.refl _ d).alloc (Nat.le_refl _) o)).blk];exact n.at2
  have c9:d.cell? ⟨sb,2,none⟩=some (.slice (some ⟨g,0,none⟩) (l.length+1) a):=by rw [Lib.cell_of_heap n.blk];exact n.at2
  have g2:=Lib.frozen_of_heap n.blk 2;have d1:∀o:Obj,(d.alloc o).frozen? ⟨sb,2,none⟩=false:=fun o=>Lib.frozen_of_heap (n.below ((Below.refl _ d).alloc (Nat.le_refl _) o)).blk 2;have B6:Below d.heap.size d (d.alloc (.cells #[.string (bs tx),.bool Z] 138)):=(Below.refl _ _).alloc (Nat.le_refl _) _;obtain ⟨O,d3⟩:∃O:World,d.alloc (.cells #[.string (bs tx),.bool Z] 138)=O:=⟨_,rfl⟩;have L6:=heap_alloc_new d (.cells #[.string (bs tx),.bool Z] 138);rw [d3] at B6 L6;have A:=n.below B6;have X6:=ae B6 z;have d6:O.cell? ⟨sb,2,none⟩=some (.slice (some ⟨g,0,none⟩) (l.length+1) a):=by rw [Lib.cell_of_heap A.blk];exact A.at2
  have g6:=Lib.frozen_of_heap A.blk 2;have W:aL sb O (O.setCell ⟨sb,2,none⟩ (.slice (some ⟨g,0,none⟩) 0 a)):=(aL.refl _ _).setCell _;have b7:=heap_setCell_same O sb 2 _ _ (.slice (some ⟨g,0,none⟩) 0 a) A.blk;obtain ⟨F,d4⟩:∃F:World,O.setCell ⟨sb,2,none⟩ (.slice (some ⟨g,0,none⟩) 0 a)=F:=⟨_,rfl⟩;rw [d4] at W b7;have d9:sb≠w.heap.size:=fun e=>by have:=n.blk;rw [e,z] at this;simp at this
  have Y:=(W.2 _ (Ne.symm d9)).trans X6;have L7:=(W.2 _ (by have:=ah n.blk;omega)).trans L6;have t0:F.cell? ⟨d.heap.size,0,none⟩=some (.string (bs tx)):=by rw [Lib.cell_of_heap L7];rfl
  have t1:F.cell? ⟨d.heap.size,1,none⟩=some (.bool Z):=by rw [Lib.cell_of_heap L7];rfl
  have R7:lF F (.slice (some ⟨g,0,none⟩) 0 a) []:=by
   obtain ⟨g',a7,Q,e,hg,p1,p2,p3,p4⟩:=A.row.parts (fun e=>by rw [e] at J;simp at J);injection e with e _ e3;injection e with e;injection e with e _;subst e e3;exact lF.mk (l:=[]) ((W.2 g (fun e=>A.far (by rw [←e];rfl))).trans hg) (Nat.zero_le _) p2 p3 rfl
  have p0:F.cell? ⟨w.heap.size,0,none⟩=some (.string ⟨#[]⟩):=by rw [Lib.cell_of_heap Y];rfl
  have p1:F.cell? ⟨w.heap.size,1,none⟩=some (.bool false):=by rw [Lib.cell_of_heap Y];rfl
  have q0:=Lib.frozen_of_heap Y 0;have q1:=Lib.frozen_of_heap Y 1;have A7:ll F sb ((C.setIfInBounds 2 (.slice (some ⟨g,0,none⟩) (l.length+1) a)).setIfInBounds 2 (.slice (some ⟨g,0,none⟩) 0 a)) (.slice (some ⟨g,0,none⟩) 0 a) []:=⟨b7,by rw [Array.size_setIfInBounds];exact A.size,by rw [Array.getElem?_setIfInBounds_self_of_lt (by have:=A.size;omega)],R7⟩
  have K7:aH (fun k=>k=sb∨(Value.slice (some ⟨g,0,none⟩) (l.length+1) a).ownBlock=some k) w4 F:=((aH.below K:aH (fun k=>k=sb∨(Value.slice (some ⟨g,0,none⟩) (l.length+1) a).ownBlock=some k) w4 d).trans (aH.below B6:aH (fun _=>False) _ _) (fun _ _ e=>e.elim)).trans (aH.same W) (fun _ _ e=> .inl e);have b6:=Lib.hid A7;have a5:=Lib.hid Y;have c1:=Lib.hid K7;clear n z K D W b7 X6 R7 B6 Y A A7 K7 d2 d1 c9 g2 L6 L7;go_wp2_with fail
  obtain ⟨r0,r1,rS⟩:=qC (x:= .string (bs tx)) (y:= .bool Z) a5.out;refine bodyPost_ret (v:= .tuple #[.agg #[.string (bs tx),.bool Z],.bool true]) (by simp [results,Tryz.results66,go_sem,r0,r1]) rfl ?_;rw [M.out];exact ⟨rfl,oI.fin a2.out a0.out HO.out rfl b6.out c1.out (fun k e=> .inl e) (Nat.le_refl _) a5.out rS⟩
structure fG [Kn] (E:Nat→Prop) (pp pb mb sb ch bl:Nat) (c:bX) (w:World) (A:Nat→Prop) (q:Nat→Nat) (vr:Value) (S:aa) (recs:List UInt8) (vw v:Value) (acc:List UInt8) (ls:List (List UInt8)) (s:bG):Prop where
 env:gg E w pp c
 ses:cI w A pp pb sb ch vw ls s
 row:lF w vw s.wait
 bag:fv w pb mb q vr S recs
 bld:jE 0 w bl v acc
 ea:∀k,E k→¬A k
 eb:∀k,E k→¬an w pb mb q vr S k
 ab:∀k,A k→¬an w pb mb q vr S k
 wd:∀g,vw.ownBlock=some g→¬E g∧¬A g∧¬an w pb mb q vr S g∧g≠bl∧v.ownBlock≠some g
 ld:¬E bl∧¬A bl∧¬an w pb mb q vr S bl
 vd:∀g,v.ownBlock=some g→¬E g∧¬A g∧¬an w pb mb q vr S g
section
variable {E:Nat→Prop} {pp pb mb sb ch bl:Nat} {c:bX} {w w':World} {A A':Nat→Prop} {q q':Nat→Nat} {vr vr':Value} {S S':aa} {recs recs':List UInt8} {vw vw' v v':Value} {acc acc':List UInt8} {ls ls':List (List UInt8)} {s s':bG}
theorem fG.rowLt [Kn] (h:fG E pp pb mb sb ch bl c w A q vr S recs vw v acc ls s) {g:Nat} (d:vw.ownBlock=some g):g < w.heap.size:=by
 obtain ⟨a,b⟩:=dm h.row d;exact ah b
theorem fG.blLt [Kn] (h:fG E pp pb mb sb ch bl c w A q vr S recs vw v acc ls s):bl < w.heap.size:=by
 obtain ⟨p,_,a⟩:=h.bld.blk;exact ah a
theorem fG.vLt [Kn] (h:fG E pp pb mb sb ch bl c w A q vr S recs vw v acc ls s) {g:Nat} (d:v.ownBlock=some g):g < w.heap.size:=by
 obtain ⟨a,z,b⟩:=gB h.bld.row d;exact ah b
def ug (w:World) (pb mb bl:Nat) (A:Nat→Prop) (q:Nat→Nat) (vr:Value) (S:aa) (vw v:Value) (k:Nat):Prop:=A k∨an w pb mb q vr S k∨k=bl∨v.ownBlock=some k∨vw.ownBlock=some k
theorem j6 {B:Nat→Prop} (h:jE 0 w bl v acc) (a:aH B w w') (b:¬B bl) (d:∀g,v.ownBlock=some g→¬B g):jE 0 w' bl v acc:=by
 obtain ⟨p,f,e⟩:=h.blk;exact ⟨⟨p,f,a.some_ e b⟩,BA h.row a d,h.far⟩
theorem fG.line [Kn] (h:fG E pp pb mb sb ch bl c w A q vr S recs vw v acc ls s) (l:gp A pp pb mb sb ch vw q vr S w s' S' recs' ls' w') (m:s'.wait=s.wait):∃A' q' vr',fG E pp pb mb sb ch bl c w' A' q' vr' S' recs' vw v acc ls' s'∧(∀k,A' k→A k∨w.heap.size≤k)∧(∀k,an w' pb mb q' vr' S' k→an w pb mb q vr S k∨w.heap.size≤k)∧aH (fun k=>A k∨an w pb mb q vr S k) w w':=by
 obtain ⟨A',q',vr',p,r,y,f,i,t,d⟩:=l;have j:∀k,E k→¬(A k∨an w pb mb q vr S k):=fun k e x=>x.elim (h.ea k e) (h.eb k e);have b:∀{k:Nat},k < w.heap.size→¬A k→¬an w pb mb q vr S k→¬A' k∧¬an w' pb mb q' vr' S' k:=fun u n o=>⟨fun e=>(f _ e).elim n (fun e=>by omega),fun e=>(i _ e).elim o (fun e=>by omega)⟩;refine ⟨A',q',vr',⟨h.env.chg d j,p,?_,r,?_,?_,?_,t,?_,?_,?_⟩,f,i,d⟩
 ·rw [m];exact bC h.row d (fun g a e=>e.elim (h.wd g a).2.1 (h.wd g a).2.2.1)
 ·exact j6 h.bld d (fun e=>e.elim h.ld.2.1 h.ld.2.2) (fun g a e=>e.elim (h.vd g a).2.1 (h.vd g a).2.2)
 ·exact fun k e=>(b (h.env.lt k e) (h.ea k e) (h.eb k e)).1
 ·exact fun k e=>(b (h.env.lt k e) (h.ea k e) (h.eb k e)).2
 ·intro g a;have:=b (h.rowLt a) (h.wd g a).2.1 (h.wd g a).2.2.1;exact ⟨(h.wd g a).1,this.1,this.2,(h.wd g a).2.2.2⟩
 ·have:=b h.blLt h.ld.2.1 h.ld.2.2;exact ⟨h.ld.1,this.1,this.2⟩
 ·intro g a;have:=b (h.vLt a) (h.vd g a).2.1 (h.vd g a).2.2;exact ⟨(h.vd g a).1,this.1,this.2⟩
theorem fG.below [Kn] (h:fG E pp pb mb sb ch bl c w A q vr S recs vw v acc ls s) (d:Below w.heap.size w w'):fG E pp pb mb sb ch bl c w' A q vr S recs vw v acc ls s:=by
 have f:aH (fun _=>False) w w':=aH.below d;obtain ⟨i,b⟩:=h.bag.chg f (fun _ _ e=>e);exact ⟨h.env.below d,h.ses.below d,bC h.row f (fun _ _ e=>e),i,j6 h.bld f (fun e=>e) (fun _ _ e=>e),h.ea,fun k e x=>h.eb k e (b k x),fun k e x=>h.ab k e (b k x),fun g a=>⟨(h.wd g a).1,(h.wd g a).2.1,fun x=>(h.wd g a).2.2.1 (b g x),(h.wd g a).2.2.2⟩,⟨h.ld.1,h.ld.2.1,fun x=>h.ld.2.2 (b _ x)⟩,fun g a=>⟨(h.vd g a).1,(h.vd g a).2.1,fun x=>(h.vd g a).2.2 (b g x)⟩⟩
theorem fG.cut [Kn] (h:fG E pp pb mb sb ch bl c w A q vr S recs vw v acc ls s) {C:Array Value} {y:List UInt8} {j:Value} (I:C=iq pp pb ch vw j s) (n:bT w sb ch (iq pp pb ch vw j s) ls) (M:oh w A j s.tx) (K:oI sb C vw y w w'):∃vw',fG E pp pb mb sb ch bl c w' A q vr S recs vw' v acc ls {s with wait:=y}∧aH (fun k=>k=sb∨vw.ownBlock=some k) w w'∧(∀g,vw'.ownBlock=some g→vw.ownBlock=some g∨w.heap.size≤g)∧∀k,an w' pb mb q vr S k→an w pb mb q vr S k:=by
 obtain ⟨vw',m,f,B⟩:=K;subst I;have H:∀k,E k→¬(k=sb∨vw.ownBlock=some k):=fun k e x=>x.elim (fun a=>h.ea k e (by rw [a];exact h.ses.asb)) (fun a=>(h.wd k a).1 e);have G:∀k,an w pb mb q vr S k→¬(k=sb∨vw.ownBlock=some k):=fun k e x=>x.elim (fun a=>h.ab k (by rw [a];exact h.ses.asb) e) (fun a=>(h.wd k a).2.2.1 e);obtain ⟨F,i⟩:=h.bag.chg f G;have d:∀g,vw'.ownBlock=some g→vw.ownBlock=some g∨w.heap.size≤g:=B;obtain ⟨N,r,p⟩:=n.chan;have l:¬(ch=sb∨vw.ownBlock=some ch):=fun x=>x.elim (fun e=>n.ne e.symm) (fun e=>(h.wd ch e).2.1 h.ses.ach);have o:bT w' sb ch (iq pp pb ch vw' j {s with wait:=y}) ls:=⟨m.blk,m.size,rfl,N,r,f.some_ p l⟩;have u:oh w' A j s.tx:=M.off f (fun k C t z D e L x=>x.elim (fun a=>tg n k C t z e L (.inl a)) (fun a=>(h.wd k a).2.1 D));refine ⟨vw',⟨h.env.chg f H,⟨⟨j,o,u⟩,h.ses.asb,h.ses.ach,fun k J=>Nat.lt_of_lt_of_le (h.ses.lt k J) f.size⟩,m.row,F,j6 h.bld f (fun x=>x.elim (fun e=>h.ld.2.1 (by rw [e];exact h.ses.asb)) (fun e=>(h.wd bl e).2.2.2.1 rfl)) (fun g b x=>x.elim (fun e=>(h.vd g b).2.1 (by rw [e];exact h.ses.asb)) (fun e=>(h.wd g e).2.2.2.2 b)),h.ea,fun k e x=>h.eb k e (i k x),fun k e x=>h.ab k e (i k x),fun g b=>?_,⟨h.ld.1,h.ld.2.1,fun x=>h.ld.2.2 (i _ x)⟩,fun g b=>⟨(h.vd g b).1,(h.vd g b).2.1,fun x=>(h.vd g b).2.2 (i g x)⟩⟩,f,d,i⟩
 rcases d g b with e | e
 ·exact ⟨(h.wd g e).1,(h.wd g e).2.1,fun x=>(h.wd g e).2.2.1 (i g x),(h.wd g e).2.2.2⟩
 ·exact ⟨fun x=>by have:=h.env.lt g x;omega,fun x=>by have:=h.ses.lt g x;omega,fun x=>by have:=an.lt h.bag (i g x);omega,fun x=>by have:=h.blLt;omega,fun x=>by have:=h.vLt x;omega⟩
theorem fG.told [Kn] (h:fG E pp pb mb sb ch bl c w A q vr S recs vw v acc ls s) {y r:Nat} (f:aH (fun k=>k=ch∨k=bl∨v.ownBlock=some k) w w') (u:∀g,v'.ownBlock=some g→v.ownBlock=some g∨w.heap.size≤g) (I:jE 0 w' bl v' acc') (l:w'.heap[ch]? =some (.chan 3 #[] false y r false)):fG E pp pb mb sb ch bl c w' A q vr S recs vw v' acc' [] s∧∀k,an w' pb mb q vr S k→an w pb mb q vr S k:=by
 obtain ⟨o,i,L⟩:=h.ses.ex
 have G:∀k,E k→¬(k=ch∨k=bl∨v.ownBlock=some k):=fun k e x=>by
  rcases x with x | x | x
  ·exact h.ea k e (by rw [x];exact h.ses.ach)
  ·exact h.ld.1 (by rw [←x];exact e)
  ·exact (h.vd k x).1 e
 have F:∀k,an w pb mb q vr S k→¬(k=ch∨k=bl∨v.ownBlock=some k):=fun k e x=>by
  rcases x with x | x | x
  ·exact h.ab k (by rw [x];exact h.ses.ach) e
  ·exact h.ld.2.2 (by rw [←x];exact e)
  ·exact (h.vd k x).2.2 e
 obtain ⟨D,d⟩:=h.bag.chg f F
 have p:∀k,A k→k≠ch→¬(k=ch∨k=bl∨v.ownBlock=some k):=fun k a n x=>by
  rcases x with x | x | x
  ·exact n x
  ·exact h.ld.2.1 (by rw [←x];exact a)
  ·exact (h.vd k x).2.1 a
 have j:bT w' sb ch (iq pp pb ch vw o s) []:=⟨f.some_ i.blk (p sb h.ses.asb i.ne),i.size,i.told,y,r,l⟩;have m:oh w' A o s.tx:=L.off f (fun k C t z B e K=>p k B (fun H=>tg i k C t z e K (.inr H)));refine ⟨⟨h.env.chg f G,⟨⟨o,j,m⟩,h.ses.asb,h.ses.ach,fun k J=>Nat.lt_of_lt_of_le (h.ses.lt k J) f.size⟩,bC h.row f (fun g b x=>?_),D,I,h.ea,fun k e x=>h.eb k e (d k x),fun k e x=>h.ab k e (d k x),fun g b=>⟨(h.wd g b).1,(h.wd g b).2.1,fun x=>(h.wd g b).2.2.1 (d g x),(h.wd g b).2.2.2.1,fun x=>?_⟩,⟨h.ld.1,h.ld.2.1,fun x=>h.ld.2.2 (d _ x)⟩,fun g b=>?_⟩,d⟩
 ·rcases x with x | x | x
  ·exact (h.wd g b).2.1 (by rw [x];exact h.ses.ach)
  ·exact (h.wd g b).2.2.2.1 x
  ·exact (h.wd g b).2.2.2.2 x
 ·rcases u g x with e | e
  ·exact (h.wd g b).2.2.2.2 e
  ·have:=h.rowLt b;omega
 ·rcases u g b with e | e
  ·exact ⟨(h.vd g e).1,(h.vd g e).2.1,fun x=>(h.vd g e).2.2 (d g x)⟩
  ·exact ⟨fun x=>by have:=h.env.lt g x;omega,fun x=>by have:=h.ses.lt g x;omega,fun x=>by have:=an.lt h.bag (d g x);omega⟩
end
theorem Ak (a:List UInt8) (g:Bool) (m:Int) (w:World) (d:a.length≤1048576) (b:g=false→fp a) (f:w.cell? ⟨0,0,none⟩=some (.int .i64 m)):
  Calls Tryz.prog 103 #[.agg #[.string (bs a),.bool g]] w fun e t=>e= .returned (jo (bn a g))∧Below w.heap.size w t:=by
 cases g with
 | true=>exact Al a w
 | false=>
  have b:=b rfl;have e:bn a false=Ed (Lib.toUpperA (cz 32 a).1) (cz 32 a).2.1 (cz 32 a).2.2:=rfl;rw [e];unfold Ed
  by_cases h:Lib.toUpperA (cz 32 a).1=[81,85,73,84]
  ·rw [if_pos h];exact fA a m w d b f h (.inl ⟨rfl,rfl⟩)
  rw [if_neg h]
  by_cases i:Lib.toUpperA (cz 32 a).1=[78,79,79,80]
  ·rw [if_pos i];exact fA a m w d b f i (.inr (.inl ⟨rfl,rfl⟩))
  rw [if_neg i]
  by_cases j:Lib.toUpperA (cz 32 a).1=[82,83,69,84]
  ·rw [if_pos j];exact fA a m w d b f j (.inr (.inr (.inl ⟨rfl,rfl⟩)))
  rw [if_neg j]
  by_cases k:Lib.toUpperA (cz 32 a).1=[68,65,84,65]
  ·rw [if_pos k];exact fA a m w d b f k (.inr (.inr (.inr (.inl ⟨rfl,rfl⟩))))
  rw [if_neg k]
  by_cases l:Lib.toUpperA (cz 32 a).1=[72,69,76,79]
  ·rw [if_pos l];exact fA a m w d b f l (.inr (.inr (.inr (.inr (.inl ⟨rfl,rfl⟩)))))
  rw [if_neg l]
  by_cases n:Lib.toUpperA (cz 32 a).1=[69,72,76,79]
  ·rw [if_pos n];exact fA a m w d b f n (.inr (.inr (.inr (.inr (.inr (.inl ⟨rfl,rfl⟩))))))
  rw [if_neg n]
  by_cases o:Lib.toUpperA (cz 32 a).1=[65,85,84,72]
  ·rw [if_pos o];exact fA a m w d b f o (.inr (.inr (.inr (.inr (.inr (.inr (.inl ⟨rfl,rfl⟩)))))))
  rw [if_neg o]
  by_cases p:Lib.toUpperA (cz 32 a).1=[77,65,73,76]
  ·rw [if_pos p];exact fA a m w d b f p (.inr (.inr (.inr (.inr (.inr (.inr (.inr (.inl ⟨rfl,rfl⟩))))))))
  rw [if_neg p]
  by_cases r:Lib.toUpperA (cz 32 a).1=[82,67,80,84]
  ·rw [if_pos r];exact fA a m w d b f r (.inr (.inr (.inr (.inr (.inr (.inr (.inr (.inr ⟨rfl,rfl⟩))))))))
  rw [if_neg r];exact yL a m w d b f (by unfold JM;simp [h,i,j,k,l,n,o,p,r])
structure DZ (k:og):Prop where
 verb:k.verb≤10
 name:k.name=[]∨dH k.name=true
 rcpt:k.verb=10→dH k.name=true
theorem zp (v:Nat) (h:v≤9):DZ (rJ v):=⟨by show v≤10;omega,.inl rfl,fun e=>by have e:v=10:=e;omega⟩
theorem Ex (l:List UInt8):dY l=[]∨dH (dY l)=true:=by
 cases h:(jb l).2 with
 | true=>exact .inr (qI h)
 | false=>left;unfold dY;rw [h];rfl
theorem Bw (b:List UInt8) (a:Bool):DZ (bn b a):=by
 unfold bn
 cases a with
 | true=>exact zp 0 (by decide)
 | false=>
  simp only [Bool.false_eq_true,if_false];unfold Ed la mW;have d:DZ iI:=zp 1 (by decide)
  repeat' split
  all_goals first
   | exact d
   | exact zp _ (by decide)
   | skip
  ·unfold ry
   split
   ·split
    ·exact ⟨show (8:Nat)≤10 by omega,.inl rfl,fun e=>by cases e⟩
    ·exact d
   ·exact d
  ·unfold uJ;simp only
   split
   ·exact ⟨show (9:Nat)≤10 by omega,Ex _,fun e=>by cases e⟩
   ·exact d
  ·unfold vc;simp only
   split
   ·rename_i f
    rw [Bool.and_eq_true] at f;exact ⟨Nat.le_refl 10,.inr (qI f.2),fun _=>qI f.2⟩
   ·exact d
section
variable {A:Nat→Prop} {pp pb mb sb ch:Nat} {vw:Value} {q:Nat→Nat} {vr:Value} {S:aa} {recs:List UInt8} {w:World} {s:bG} {E:Nat→Prop} {c:bX}
theorem H8 (h:cI w A pp pb sb ch vw [] s) (g:gg E w pp c) (f:∀k,E k→¬A k) (k:og) (n:k.verb≤10) (m:k.name.length≤1048576) (j:∀t,s.tx=some t→t.body=none∧t.tos.length≤10):
  Calls Tryz.prog 102 #[.pointer (some ⟨sb,0,none⟩),jo k] w (cP A pp pb sb ch vw w (bz c s k).1 (bz c s k).2):=by
 obtain ⟨v,b,d,a⟩:=k;simp only at n m;unfold jo bz;simp only
 cases e:fO s v with
 | false=>
  simp only [if_true];exact Dp h g f b a d v e
 | true=>
  simp only [Bool.true_eq_false,if_false];have l:v=0∨v=1∨v=2∨v=3∨v=4∨v=5∨v=6∨v=7∨v=8∨v=9∨v=10:=by omega
  rcases l with rfl | rfl | rfl | rfl | rfl | rfl | rfl | rfl | rfl | rfl | rfl
  ·exact gz h g f b a d rfl e (.inl ⟨rfl,rfl,rfl⟩)
  ·exact gz h g f b a d rfl e (.inr (.inl ⟨rfl,rfl,rfl⟩))
  ·exact gz h g f b a d rfl e (.inr (.inr (.inl ⟨rfl,rfl,rfl⟩)))
  ·exact gz h g f b a d rfl e (.inr (.inr (.inr (.inl ⟨rfl,rfl,rfl⟩))))
  ·exact gz h g f b a d rfl e (.inr (.inr (.inr (.inr (.inl ⟨rfl,rfl,rfl⟩)))))
  ·cases i:s.tx with
   | none=>rw [show fO s 5=false by unfold fO jA;rw [i];rfl] at e;cases e
   | some t=>exact gz h g f b a d rfl e (.inr (.inr (.inr (.inr (.inr (.inl ⟨_,i,rfl,rfl,rfl⟩))))))
  ·exact gz h g f b a d rfl e (.inr (.inr (.inr (.inr (.inr (.inr (.inl ⟨rfl,rfl,rfl⟩)))))))
  ·exact gz h g f b a d rfl e (.inr (.inr (.inr (.inr (.inr (.inr (.inr (.inl ⟨rfl,rfl,rfl⟩))))))))
  ·exact gz h g f b a d rfl e (.inr (.inr (.inr (.inr (.inr (.inr (.inr (.inr (.inl ⟨rfl,rfl,rfl⟩)))))))))
  ·exact gz h g f b a d rfl e (.inr (.inr (.inr (.inr (.inr (.inr (.inr (.inr (.inr (.inl ⟨rfl,rfl,rfl⟩))))))))))
  ·cases i:s.tx with
   | none=>rw [show fO s 10=false by unfold fO jA;rw [i];rfl] at e;cases e
   | some t=>exact gz h g f b a d rfl e (.inr (.inr (.inr (.inr (.inr (.inr (.inr (.inr (.inr (.inr ⟨_,i,(j t i).1,m,(j t i).2,rfl,rfl,rfl⟩))))))))))
theorem E2 [Kn] (h:cI w A pp pb sb ch vw [] s) (r:gg E w pp c) (f:fv w pb mb q vr S recs) (x:oJ S recs) {t:mK} (u:s.tx=some t) (j:tA t) {b:dW} (p:t.body=some b) (g:∀k,A k→¬an w pb mb q vr S k) (m:∀k,E k→¬an w pb mb q vr S k) (i:∀k,E k→¬A k) (a:List UInt8) (d:Bool) (n:a.length≤1048576):
  Calls Tryz.prog 101 #[.pointer (some ⟨sb,0,none⟩),.agg #[.string (bs a),.bool d]] w fun e v=>e= .returned (.tuple #[])∧gp A pp pb mb sb ch vw q vr S w (dn c s S recs t b a d).1 (dn c s S recs t b a d).2.1 (dn c s S recs t b a d).2.2.1 (dn c s S recs t b a d).2.2.2 v:=by
 unfold dn
 by_cases l:a=[46]
 ·subst l;simp only [if_true];exact E4 h r f x u j p g m i d
 ·simp only [l,if_false];refine (E1 h r u j p a d l n).mono ?_;intro e v o;exact ⟨o.1,gp.step f g o⟩
end
def aO (c:bX) (s:bG) (S:aa) (recs:List UInt8) (text:List UInt8) (bad:Bool):bG×aa×List UInt8×List (List UInt8):=
 match s.tx with
 | some t=>(match t.body with
  | some b=>dn c s S recs t b text bad
  | none=>((bz c s (bn text bad)).1,S,recs,(bz c s (bn text bad)).2))
 | none=>((bz c s (bn text bad)).1,S,recs,(bz c s (bn text bad)).2)
section
variable {E:Nat→Prop} {pp pb mb sb ch bl:Nat} {c:bX} {w:World} {A:Nat→Prop} {q:Nat→Nat} {vr:Value} {S:aa} {recs:List UInt8} {vw v:Value} {acc:List UInt8} {ls:List (List UInt8)} {s:bG}
theorem fG.take_d [Kn] (h:fG E pp pb mb sb ch bl c w A q vr S recs vw v acc ls s) (hl:∀l∈ls,l.length≤1048576) (u:FrameMode) (L:acc.length+ls.flatten.length≤140737488355328):
  CallsD Tryz.prog 63 #[.pointer (some ⟨sb,0,none⟩),.pointer (some ⟨bl,0,none⟩)] u w fun e u' B=>u'=u∧e= .returned (.tuple #[])∧∃d,fG E pp pb mb sb ch bl c B A q vr S recs vw d (acc++ls.flatten) [] s∧aH (fun k=>k=ch∨k=bl∨v.ownBlock=some k) w B∧(∀k,an B pb mb q vr S k→an w pb mb q vr S k)∧∀g,d.ownBlock=some g→v.ownBlock=some g∨w.heap.size≤g:=by
 obtain ⟨vx,I,hx⟩:=h.ses.ex;obtain ⟨sq,r,G⟩:=I.chan;have C:ch≠bl:=fun e=>h.ld.2.1 (by rw [←e];exact h.ses.ach)
 have P:¬(sb=ch∨sb=bl∨v.ownBlock=some sb):=fun x=>by
  rcases x with x | x | x
  ·exact I.ne x
  ·exact h.ld.2.1 (by rw [←x];exact h.ses.asb)
  ·exact (h.vd sb x).2.1 h.ses.asb
 let Bd:List UInt8→World→Prop:=fun a B=>∃d,jE 0 B bl d a∧(∀g,d.ownBlock=some g→v.ownBlock=some g∨w.heap.size≤g)∧aH (fun k=>k=ch∨k=bl∨v.ownBlock=some k) w B∧∃j y t,B.heap[ch]? =some (.chan 3 j false y t false)
 have R:=vR Bd sb ch sq r false (.pointer (some ⟨bl,0,none⟩)) ls acc u w ?_ ?_ ?_ ⟨v,h.bld,fun g e=> .inl e,aH.refl _ _,_,_,_,G⟩ G hl L
 ·refine R.mono ?_;rintro e u' B ⟨rfl,rfl,y,t,⟨d,n,p,i,_⟩,b⟩;obtain ⟨x1,x2⟩:=h.told i p n b;exact ⟨rfl,rfl,d,x1,i,x2,p⟩
 ·rintro a l W ⟨d,n,p,i,j,y,t,b⟩ _ H
  have m:d.ownBlock≠some ch:=fun e=>by
   obtain ⟨J,z,F⟩:=gB n.row e;rw [b] at F;cases F
  refine (r8 0 bl d a l W n (Nat.zero_le _) H).mono ?_;rintro e T ⟨⟨rv,rfl⟩,⟨v2,X,Y⟩,K,Z,Q⟩
  have M:aH (fun k=>k=bl∨d.ownBlock=some k) W T:=⟨Q,fun k D V=>by
   rw [Array.getElem?_eq_getElem D]
   exact K k _ (Array.getElem?_eq_getElem D) (fun e=>V (.inl e)) (fun e=>V (.inr e)),Z⟩
  refine ⟨⟨rv,rfl⟩,⟨v2,X,fun g N=>(Y g N).elim (p g) (fun e=> .inr (Nat.le_trans i.size e)),i.trans M (fun k D e=>e.elim (fun e=> .inr (.inl e)) (fun e=>(p k e).elim (fun e=> .inr (.inr e)) (fun e=>absurd D (by omega)))),j,y,t,K ch _ b C m⟩,fun o ho=>K ch o ho C m⟩
 ·rintro a W ⟨d,n,p,i,_⟩;rw [Lib.cell_of_heap (i.some_ I.blk P)];exact I.told
 ·rintro a W j f y t ⟨d,n,p,i,_⟩ b;have O:ch < W.heap.size:=ah b;have U:aL ch W (W.setChan ch 3 f false y (t+1) false):=⟨by simp [World.setChan],fun k D=>by simp [World.setChan,Array.getElem?_setIfInBounds_ne (Ne.symm D)],⟨rfl,rfl,rfl⟩⟩
  have m:d.ownBlock≠some ch:=fun e=>by
   obtain ⟨J,z,F⟩:=gB n.row e;rw [b] at F;cases F
  refine ⟨d,j6 n (aH.same U) (fun e=>C e.symm) (fun g N e=>m (by rw [←e];exact N)),p,i.trans (aH.same U) (fun _ _ e=> .inl e),f,y,t+1,Conc.heap_setChan W ch 3 f false y (t+1) false O⟩
def nK [Kn] (E A:Nat→Prop) (pp pb mb sb ch bl:Nat) (c:bX) (q:Nat→Nat) (vr:Value) (S:aa) (vw v:Value) (w:World) (s':bG) (S':aa) (recs' acc':List UInt8) (w':World):Prop:=
 ∃A' q' vr' vw' v',fG E pp pb mb sb ch bl c w' A' q' vr' S' recs' vw' v' acc' [] s'∧(∀k,ug w' pb mb bl A' q' vr' S' vw' v' k→ug w pb mb bl A q vr S vw v k∨w.heap.size≤k)∧aH (ug w pb mb bl A q vr S vw v) w w'
theorem xG [Kn] {j o p:World} {r:Nat→Prop} {n:Nat→Nat} {d u:Value} {l:aa} {b f:List UInt8} {y:bG} (h:fG E pp pb mb sb ch bl c w A q vr S recs vw v acc [] s) (m:Below w.heap.size w j)
  (x:aH (fun k=>A k∨an j pb mb q vr S k) j o) (z:∀k,r k→A k∨j.heap.size≤k) (t:∀k,an o pb mb n d l k→an j pb mb q vr S k∨j.heap.size≤k) (B:fG E pp pb mb sb ch bl c p r n d l b vw u f [] y) (C:aH (fun k=>k=ch∨k=bl∨v.ownBlock=some k) o p) (D:∀k,an p pb mb n d l k→an o pb mb n d l k) (F:∀g,u.ownBlock=some g→v.ownBlock=some g∨o.heap.size≤g):nK E A pp pb mb sb ch bl c q vr S vw v w y l b f p:=by
 have i:∀k,an j pb mb q vr S k→an w pb mb q vr S k:=fun k e=>e.imp (fun e=>cR h.bag.inn m e) id;refine ⟨r,n,d,vw,u,B,fun k a=>?_,(((aH.below m:aH (ug w pb mb bl A q vr S vw v) w j)).trans x (fun k _ e=>e.imp id (fun e=> .inl (i k e)))).trans C (fun k _ e=>?_)⟩
 ·rcases a with a | a | a | a | a
  ·exact (z k a).imp .inl (fun e=>Nat.le_trans m.size e)
  ·exact (t k (D k a)).imp (fun e=> .inr (.inl (i k e))) (fun e=>Nat.le_trans m.size e)
  ·exact .inl (.inr (.inr (.inl a)))
  ·exact (F k a).imp (fun e=> .inr (.inr (.inr (.inl e)))) (fun e=>Nat.le_trans (Nat.le_trans m.size x.size) e)
  ·exact .inl (.inr (.inr (.inr (.inr a))))
 ·rcases e with e | e | e
  ·exact .inl (by rw [e];exact h.ses.ach)
  ·exact .inr (.inr (.inl e))
  ·exact .inr (.inr (.inr (.inl e)))
theorem CN [Kn] (h:fG E pp pb mb sb ch bl c w A q vr S recs vw v acc [] s) (Z:oJ S recs) {t:mK} (P:s.tx=some t) (G:tA t) {b:dW} (O:t.body=some b) (a:List UInt8) (d:Bool) (F:a.length≤1048576) (m:∀l∈(dn c s S recs t b a d).2.2.2,l.length≤1000) (a0:(dn c s S recs t b a d).2.2.2.flatten.length≤3000) (X:acc.length≤1099511627776) (n:(dn c s S recs t b a d).1.wait=s.wait):
  Calls Tryz.prog 67 #[.pointer (some ⟨sb,0,none⟩),.agg #[.string (bs a),.bool d],.pointer (some ⟨bl,0,none⟩)] w fun e w'=>e= .returned (.tuple #[])∧nK E A pp pb mb sb ch bl c q vr S vw v w (dn c s S recs t b a d).1 (dn c s S recs t b a d).2.1 (dn c s S recs t b a d).2.2.1 (acc++(dn c s S recs t b a d).2.2.2.flatten) w':=by
 obtain ⟨vx,J,K⟩:=h.ses.ex;rw [P] at K;obtain ⟨H,vt,vb,rfl,ha,N,hO,L⟩:=K;rw [O] at L;obtain ⟨I,vy,rfl,Y,B,W⟩:=L;obtain ⟨g,k⟩:∃g:World,w.alloc (.cells #[.string (bs a),.bool d] 138)=g:=⟨_,rfl⟩;have j:Below w.heap.size w g:=by rw [←k];exact (Below.refl _ _).alloc (Nat.le_refl _) _
 have z:g.heap[w.heap.size]? =some (.cells #[.string (bs a),.bool d] 138 (0,0)):=by rw [←k];exact heap_alloc_new w _
 have l0:g.cell? ⟨w.heap.size,0,none⟩=some (.string (bs a)):=by rw [Lib.cell_of_heap z];rfl
 have l1:g.cell? ⟨w.heap.size,1,none⟩=some (.bool d):=by rw [Lib.cell_of_heap z];rfl
 have c8:g.cell? ⟨sb,8,none⟩=some (.pointer (some ⟨H,0,none⟩)):=(J.below j).cell 8;have t2:g.cell? ⟨H,2,none⟩=some (.pointer (some ⟨I,0,none⟩)):=by rw [Lib.cell_of_heap (ae j N.blk)];rfl
 have i:=h.below j;have r:=Lib.hid (AL H I g t2);have u:=Lib.hid (E2 i.ses i.env i.bag Z P G O i.ab i.eb i.ea a d F);have Q:=Lib.hid h;have p:=Lib.hid i;have o:=Lib.hid j;have x:=Lib.hid m;have y:=Lib.hid n;clear h J N B i j z m n;go_enter_defers Tryz.func67,Tryz.ntmps67
 go_wp2_with fail
 refine r.out.mono ?_;rintro e w1 ⟨rfl,rfl⟩;go_wp2_with fail
 refine u.out.mono ?_;rintro e w2 ⟨rfl,M⟩;have R:=Lib.hid M;clear M;go_wp2_with fail
 refine leaves_cons (f:=63) (args:=#[.pointer (some ⟨sb,0,none⟩),.pointer (some ⟨bl,0,none⟩)]) (by simp) (by simp [go_sem]) ?_;obtain ⟨A1,q1,a1,C,g1,g2,g3⟩:=p.out.line R.out y.out;refine (C.take_d (fun l hl=>by have:=x.out l hl;omega) .returning (by omega)).mono ?_;rintro e u' w3 ⟨rfl,rfl,v3,D,T,U,V⟩;exact ⟨_,results_none rfl _ _ _,rfl,xG Q.out o.out g3 g1 g2 D T U V⟩
theorem xF [Kn] (h:fG E pp pb mb sb ch bl c w A q vr S recs vw v acc [] s) (u:∀t,s.tx=some t→t.body=none∧t.tos.length≤10) (a:List UInt8) (b:Bool) (Z:a.length≤1048576) (K:b=false→fp a) (J:∀l∈(bz c s (bn a b)).2,l.length≤1000) (Y:(bz c s (bn a b)).2.flatten.length≤3000) (a0:acc.length≤1099511627776) (L:(bz c s (bn a b)).1.wait=s.wait):
  Calls Tryz.prog 67 #[.pointer (some ⟨sb,0,none⟩),.agg #[.string (bs a),.bool b],.pointer (some ⟨bl,0,none⟩)] w fun e w'=>e= .returned (.tuple #[])∧nK E A pp pb mb sb ch bl c q vr S vw v w (bz c s (bn a b)).1 S recs (acc++(bz c s (bn a b)).2.flatten) w':=by
 obtain ⟨g,G⟩:∃g:World,w.alloc (.cells #[.string (bs a),.bool b] 138)=g:=⟨_,rfl⟩;have O:Below w.heap.size w g:=by rw [←G];exact (Below.refl _ _).alloc (Nat.le_refl _) _
 have R:g.heap[w.heap.size]? =some (.cells #[.string (bs a),.bool b] 138 (0,0)):=by rw [←G];exact heap_alloc_new w _
 have l0:g.cell? ⟨w.heap.size,0,none⟩=some (.string (bs a)):=by rw [Lib.cell_of_heap R];rfl
 have l1:g.cell? ⟨w.heap.size,1,none⟩=some (.bool b):=by rw [Lib.cell_of_heap R];rfl
 have n:=h.below O;obtain ⟨N,h1,d⟩:=n.ses.ex;have c8:g.cell? ⟨sb,8,none⟩=some N:=h1.cell 8;obtain ⟨m,hm⟩:=n.env.len
 have Q:Hid (Calls Tryz.prog 100 #[N] g fun e w'=>e= .returned (.bool false)∧g=w'):=Lib.hid (by
  cases x:s.tx with
  | none=>
   rw [x] at d;have d:N= .pointer none:=d;subst d;exact yY g
  | some t=>
   rw [x] at d;obtain ⟨tb,vt,vb,rfl,ha,hT,hO,M⟩:=d;rw [(u t x).1] at M;have M:vb= .pointer none:=M;subst M
   exact CL tb g (by rw [Lib.cell_of_heap hT.blk];rfl))
 obtain ⟨px,T⟩:∃p,N= .pointer p:=by
  cases x:s.tx with
  | none=>rw [x] at d;exact ⟨none,d⟩
  | some t=>rw [x] at d;obtain ⟨tb,vt,vb,e,_⟩:=d;exact ⟨_,e⟩
 subst T;have j:=Lib.hid (Ak a b m g Z K hm);have r:=Bw a b
 have I:(bn a b).name.length≤1048576:=by
  rcases r.name with e | e
  ·rw [e];simp
  ·have:=mY e;omega
 have i:Hid (∀W:World,Below g.heap.size g W→Calls Tryz.prog 102 #[.pointer (some ⟨sb,0,none⟩),jo (bn a b)] W (cP A pp pb sb ch vw W (bz c s (bn a b)).1 (bz c s (bn a b)).2)):=Lib.hid (fun W hb=>H8 (n.ses.below hb) (n.env.below hb) n.ea (bn a b) r.verb I u);have HH:=Lib.hid h;have P:=Lib.hid n;have y:=Lib.hid O;have C:=Lib.hid J;have D:=Lib.hid L;obtain ⟨kx,F⟩:∃k,bn a b=k:=⟨_,rfl⟩;rw [F] at j i C D Y ⊢;simp only [jo] at j i;clear h h1 d n O R J L hm r I K u F;go_enter_defers Tryz.func67,Tryz.ntmps67
 go_wp2_with fail
 refine Q.out.mono ?_;rintro e w1 ⟨rfl,rfl⟩;go_wp2_with fail
 refine j.out.mono ?_;rintro e w2 ⟨rfl,o⟩;have z:=Lib.hid o;have B:=Lib.hid (i.out w2 o);clear o i;go_wp2_with fail
 refine B.out.mono ?_;rintro e w3 U;have hr:=U.ret;subst hr;have HP:=Lib.hid U;clear U B;go_wp2_with fail
 refine leaves_cons (f:=63) (args:=#[.pointer (some ⟨sb,0,none⟩),.pointer (some ⟨bl,0,none⟩)]) (by simp) (by simp [go_sem]) ?_;have d:=P.out.below z.out;obtain ⟨A1,q1,a1,V,g1,g2,g3⟩:=d.line (gp.step d.bag d.ab HP.out) D.out;refine (V.take_d (fun l hl=>by have:=C.out l hl;omega) .returning (by omega)).mono ?_;rintro e u' w4 ⟨rfl,rfl,v4,X,g4,g5,g6⟩;have H:Below w.heap.size w w2:=y.out.trans (z.out.mono y.out.size);exact ⟨_,results_none rfl _ _ _,rfl,xG HH.out H g3 g1 g2 X g4 g5 g6⟩
end
structure gM (c:bX) (s:bG) (S:aa) (recs:List UInt8):Prop where
 tx:∀t,s.tx=some t→tA t∧(t.tos.length:Int)≤c.most
 time:S.time≤1000000000
 len:zP S recs
 recs:S.Ok
 wait:s.wait.length≤102
theorem gM.keep {c:bX} {s:bG} {S:aa} {a:List UInt8} (h:gM c s S a):oJ S a:=⟨h.time,by have:=h.len.items;omega,by have:=h.len.len;omega⟩
theorem gM.none {c:bX} {s s':bG} {S:aa} {a:List UInt8} (h:gM c s S a) (b:s'.tx=none) (d:s'.wait=s.wait):gM c s' S a:=⟨(fun t e=>by rw [b] at e;cases e),h.time,h.len,h.recs,by rw [d];exact h.wait⟩
theorem gM.same {c:bX} {s b:bG} {S:aa} {a:List UInt8} (h:gM c s S a) (d:b.tx=s.tx) (f:b.wait=s.wait):gM c b S a:=⟨fun t e=>h.tx t (by rw [←d];exact e),h.time,h.len,h.recs,by rw [f];exact h.wait⟩
def rq (ls:List (List UInt8)):Prop:=(∀l∈ls,l.length≤1000)∧ls.flatten.length≤3000
theorem dj {l:List UInt8} (h:l.length≤1000):rq [l]:=⟨fun x a=>by simp at a;rw [a];exact h,by simp;omega⟩
theorem FQ:rq []:=⟨(fun x a=>by cases a),by simp⟩
theorem ur {n:Int} (a:0≤n) (h:n≤4294967295):(Lib.itoa n).length≤10:=by
 unfold Lib.itoa;rw [if_neg (by omega)];exact kZ _ 9 (by omega)
theorem AN {c:bX} (h:ij c=true):(cQ c).length≤255:=by
 have:=(kg h).host;have e:=aG (cQ c);rw [sT] at e;omega
theorem Dl {l:List (List UInt8)} {x:List UInt8} (h:l.Nodup) (d:l.contains x=false):(l++[x]).Nodup:=by
 rw [List.nodup_append];refine ⟨h,by simp,fun a f b c e=>?_⟩
 simp at c;subst c;subst e;have:=List.contains_iff_mem.2 f;rw [this] at d
 cases d
theorem Dt (d:List (List UInt8)) (a:Int) (c:Bool) (b:List UInt8):rq [b9 d a c b]:=by
 apply dj;unfold b9
 split
 ·decide
 ·split
  ·decide
  ·split <;> decide
theorem Jw {t:mK} {c:Int} (m:c≤10) (f:Bool) {a:List UInt8} (h:tA t) (i:(t.tos.length:Int)≤c) (k:dH a=true) (g:t.body=none):tA {t with tos:=cY t.tos c f a}∧((cY t.tos c f a).length:Int)≤c:=by
 unfold cY
 split
 ·exact ⟨⟨h.frm,h.tos,h.one,h.most,fun b e=>by rw [show ({t with tos:=t.tos}:mK).body=t.body from rfl,g] at e;cases e⟩,i⟩
 ·rename_i j
  split
  ·exact ⟨⟨h.frm,h.tos,h.one,h.most,fun b e=>by rw [show ({t with tos:=t.tos}:mK).body=t.body from rfl,g] at e;cases e⟩,i⟩
  ·rename_i l
   split
   ·refine ⟨⟨h.frm,fun x d=>?_,Dl h.one (by simpa using j),?_,fun b e=>by rw [show ({t with tos:=t.tos++[a]}:mK).body=t.body from rfl,g] at e;cases e⟩,?_⟩
    ·have d:x∈t.tos++[a]:=d;rw [List.mem_append] at d
     rcases d with d | d
     ·exact h.tos x d
     ·simp at d;rw [d];exact k
    ·show (t.tos++[a]).length≤10;rw [List.length_append];simp only [List.length_cons,List.length_nil];omega
    ·rw [List.length_append];simp only [List.length_cons,List.length_nil];omega
   ·exact ⟨⟨h.frm,h.tos,h.one,h.most,fun b e=>by rw [show ({t with tos:=t.tos}:mK).body=t.body from rfl,g] at e;cases e⟩,i⟩
theorem Fz {c:bX} {s:bG} {S:aa} {d:List UInt8} (u:ij c=true) (h:gM c s S d) (k:og) (o:DZ k) (q:∀t,s.tx=some t→t.body=none):gM c (bz c s k).1 S d∧(bz c s k).1.wait=s.wait∧rq (bz c s k).2:=by
 have D:=ly u;have B:=AN u;have C:=ur (n:=c.size) (by omega) (by omega);obtain ⟨v,f,g,a⟩:=k;have r:v=0∨v=1∨v=2∨v=3∨v=4∨v=5∨v=6∨v=7∨v=8∨v=9∨v=10:=by have:=o.verb;simp only at this;omega
 unfold bz;simp only
 cases i:fO s v with
 | false=>exact ⟨h,rfl,dj (by decide)⟩
 | true=>
  simp only [Bool.true_eq_false,if_false]
  rcases r with rfl | rfl | rfl | rfl | rfl | rfl | rfl | rfl | rfl | rfl | rfl
  ·exact ⟨h,rfl,dj (by decide)⟩
  ·exact ⟨h,rfl,dj (by decide)⟩
  ·exact ⟨h.same rfl rfl,rfl,dj (by decide)⟩
  ·exact ⟨h,rfl,dj (by decide)⟩
  ·exact ⟨h.none rfl rfl,rfl,dj (by decide)⟩
  ·cases j:s.tx with
   | none=>rw [show fO s 5=false by unfold fO jA;rw [j];rfl] at i;cases i
   | some t=>
    obtain ⟨m,p⟩:=h.tx t j
    have y:0 < t.tos.length:=by
     unfold fO jA at i;rw [j] at i;simp at i;exact i.1
    refine ⟨⟨fun A e=>?_,h.time,h.len,h.recs,h.wait⟩,rfl,dj (by decide)⟩;injection e with e;subst e;exact ⟨⟨m.frm,m.tos,m.one,m.most,fun b e=>by injection e with e;subst e;exact ⟨y,by simp⟩⟩,p⟩
  ·exact ⟨h.none rfl rfl,rfl,dj (by simp only [List.length_append,List.length_cons,List.length_nil];omega)⟩
  ·refine ⟨h.none rfl rfl,rfl,fun l w=>?_,?_⟩
   ·simp only [List.mem_cons,List.not_mem_nil,or_false] at w
    rcases w with rfl | rfl | rfl
    ·simp only [List.length_append,List.length_cons,List.length_nil];omega
    ·simp only [List.length_append,List.length_cons,List.length_nil];omega
    ·decide
   ·simp only [List.flatten_cons,List.flatten_nil,List.length_append,List.length_cons,List.length_nil];omega
  ·change gM c (pW c s a).1 S d∧(pW c s a).1.wait=s.wait∧rq (pW c s a).2;unfold pW
   split
   ·exact ⟨h,rfl,dj (by decide)⟩
   ·split
    ·exact ⟨h.same rfl rfl,rfl,dj (by decide)⟩
    ·exact ⟨h,rfl,dj (by decide)⟩
  ·change gM c (lV c s f (g:Int)).1 S d∧(lV c s f (g:Int)).1.wait=s.wait∧rq (lV c s f (g:Int)).2;unfold lV
   split
   ·exact ⟨h,rfl,dj (by decide)⟩
   ·split
    ·exact ⟨h,rfl,dj (by decide)⟩
    ·refine ⟨⟨fun t e=>?_,h.time,h.len,h.recs,h.wait⟩,rfl,dj (by decide)⟩;injection e with e;subst e;exact ⟨⟨o.name,(fun x z=>by cases z),List.nodup_nil,Nat.zero_le _,(fun b e=>by cases e)⟩,by show (0:Int)≤_;omega⟩
  ·cases j:s.tx with
   | none=>rw [show fO s 10=false by unfold fO jA;rw [j];rfl] at i;cases i
   | some t=>
    obtain ⟨m,p⟩:=h.tx t j;refine ⟨⟨fun A e=>?_,h.time,h.len,h.recs,h.wait⟩,rfl,Dt _ _ _ _⟩;injection e with e;subst e;exact Jw (by omega) _ m p (o.rcpt rfl) (q t j)
theorem I0 {b:dW} {a:List UInt8} {d:Bool} {c:Int} (h:b.text.length≤1102) (f:c≤1000) (g:a.length≤100):(b.add a d c).text.length≤1102:=by
 unfold dW.add;have:=vY a
 split
 ·exact h
 ·rename_i e
  show ((if b.has then b.text++[13,10] else b.text)++jP a).length≤1102;rw [List.length_append]
  split
  ·rw [List.length_append];simp only [List.length_cons,List.length_nil];omega
  ·omega
theorem CH (l:List UInt8):(bJ l).length=8+l.length:=by unfold bJ;simp only [List.length_append,bf];omega
theorem CM {c:bX} {s:bG} {S:aa} {a:List UInt8} (q:ij c=true) (h:gM c s S a) {t:mK} (u:s.tx=some t) {b:dW} (o:t.body=some b) (d:List UInt8) (f:Bool) (m:d.length≤100):
  gM c (dn c s S a t b d f).1 (dn c s S a t b d f).2.1 (dn c s S a t b d f).2.2.1∧(dn c s S a t b d f).1.wait=s.wait∧rq (dn c s S a t b d f).2.2.2:=by
 have x:=ly q;obtain ⟨g,r⟩:=h.tx t u;have i:=(g.body b o);unfold dn
 split
 ·unfold kz
  split
  ·exact ⟨h.none rfl rfl,rfl,dj (by decide)⟩
  ·split
   ·exact ⟨h.none rfl rfl,rfl,dj (by decide)⟩
   ·split
    ·rename_i j
     have l:((a.length+(8+(cA (eJ S t.frm t.tos b.text)).length):Nat):Int)≤c.room:=by
      unfold jt at j;simp only [Bool.not_eq_true',decide_eq_false_iff_not] at j;omega
     have k:=CH (cA (eJ S t.frm t.tos b.text));have p:=h.len.items;refine ⟨⟨(fun v e=>by cases e),h.time,?_,?_,h.wait⟩,rfl,dj ?_⟩
     ·show zP (S.plus (eJ S t.frm t.tos b.text)) (a++bJ (cA (eJ S t.frm t.tos b.text)));exact h.len.plus g.most (GL _) (by rw [k];omega)
     ·exact h.recs.plus rfl (td h.keep g o) i.1 g.most
     ·have:=ur (n:=(S.items.length:Int)+1) (by omega) (by omega);simp only [List.length_append,List.length_cons,List.length_nil];omega
    ·exact ⟨h.none rfl rfl,rfl,dj (by decide)⟩
 ·refine ⟨⟨fun v e=>?_,h.time,h.len,h.recs,h.wait⟩,rfl,FQ⟩;injection e with e;subst e;exact ⟨⟨g.frm,g.tos,g.one,g.most,fun w e=>by injection e with e;subst e;exact ⟨i.1,I0 i.2 (by omega) m⟩⟩,r⟩
theorem iU {c:bX} {s:bG} {S:aa} {d:List UInt8} (m:ij c=true) (h:gM c s S d) (a:List UInt8) (f:Bool) (l:a.length≤100):
  gM c (aO c s S d a f).1 (aO c s S d a f).2.1 (aO c s S d a f).2.2.1∧(aO c s S d a f).1.wait=s.wait∧rq (aO c s S d a f).2.2.2:=by
 have i:(∀t,s.tx=some t→t.body=none)→_:=fun k=>Fz m h (bn a f) (Bw a f) k
 cases g:s.tx with
 | none=>
  have e:aO c s S d a f=((bz c s (bn a f)).1,S,d,(bz c s (bn a f)).2):=by unfold aO;rw [g]
  rw [e];exact i (fun t e=>by rw [g] at e;cases e)
 | some t=>
  cases j:t.body with
  | none=>
   have e:aO c s S d a f=((bz c s (bn a f)).1,S,d,(bz c s (bn a f)).2):=by unfold aO;rw [g];simp only;rw [j]
   rw [e];exact i (fun n e=>by rw [g] at e;injection e with e;subst e;exact j)
  | some b=>
   have e:aO c s S d a f=dn c s S d t b a f:=by unfold aO;rw [g];simp only;rw [j]
   rw [e];exact CM m h g j a f l
theorem Hl (l:List UInt8):(jw l).1.length≤100∧((jw l).2=false→fp (jw l).1):=by
 unfold jw
 split
 ·exact ⟨by simp,fun e=>by cases e⟩
 ·rename_i h
  simp only [Bool.or_eq_true,decide_eq_true_eq,List.any_eq_true,not_or,not_exists,not_and] at h;refine ⟨by show l.length≤100;omega,fun _ x a=>?_⟩
  have:=h.2 x a;unfold tD at this;simp only [Bool.or_eq_true,decide_eq_true_eq,not_or] at this;omega
section
variable {E:Nat→Prop} {pp pb mb sb ch bl:Nat} {c:bX} {w:World} {A:Nat→Prop} {q:Nat→Nat} {vr:Value} {S:aa} {recs:List UInt8} {vw v:Value} {acc:List UInt8} {ls:List (List UInt8)} {s:bG}
theorem E5 [Kn] (h:fG E pp pb mb sb ch bl c w A q vr S recs vw v acc [] s) (m:gM c s S recs) (a:List UInt8) (d:Bool) (n:a.length≤100) (k:d=false→fp a) (i:acc.length≤1099511627776):
  Calls Tryz.prog 67 #[.pointer (some ⟨sb,0,none⟩),.agg #[.string (bs a),.bool d],.pointer (some ⟨bl,0,none⟩)] w fun e o=>e= .returned (.tuple #[])∧nK E A pp pb mb sb ch bl c q vr S vw v w (aO c s S recs a d).1 (aO c s S recs a d).2.1 (aO c s S recs a d).2.2.1 (acc++(aO c s S recs a d).2.2.2.flatten) o:=by
 obtain ⟨_,j,f⟩:=iU h.env.may m a d n
 cases g:s.tx with
 | none=>
  have e:aO c s S recs a d=((bz c s (bn a d)).1,S,recs,(bz c s (bn a d)).2):=by unfold aO;rw [g]
  rw [e] at j f ⊢;exact xF h (fun t e=>by rw [g] at e;cases e) a d (by omega) k f.1 f.2 i j
 | some t=>
  cases l:t.body with
  | none=>
   have e:aO c s S recs a d=((bz c s (bn a d)).1,S,recs,(bz c s (bn a d)).2):=by unfold aO;rw [g];simp only;rw [l]
   rw [e] at j f ⊢;exact xF h (fun p e=>by rw [g] at e;injection e with e;subst e;exact ⟨l,(m.tx t g).1.most⟩) a d (by omega) k f.1 f.2 i j
  | some b=>
   have e:aO c s S recs a d=dn c s S recs t b a d:=by unfold aO;rw [g];simp only;rw [l]
   rw [e] at j f ⊢;exact CN h m.keep g (m.tx t g).1 l a d (by omega) f.1 f.2 i j
end
def gQ (c:bX) (x:bG×aa×List UInt8×List UInt8) (b:UInt8):bG×aa×List UInt8×List UInt8:=
 if x.1.over then x else
 match j4 x.1.wait b with
 | (wt,none)=>({x.1 with wait:=wt},x.2.1,x.2.2.1,x.2.2.2)
 | (wt,some l)=>((aO c {x.1 with wait:=wt} x.2.1 x.2.2.1 l.1 l.2).1,(aO c {x.1 with wait:=wt} x.2.1 x.2.2.1 l.1 l.2).2.1,(aO c {x.1 with wait:=wt} x.2.1 x.2.2.1 l.1 l.2).2.2.1,x.2.2.2++(aO c {x.1 with wait:=wt} x.2.1 x.2.2.1 l.1 l.2).2.2.2.flatten)
def cL (c:bX) (x:bG×aa×List UInt8×List UInt8) (piece:List UInt8):bG×aa×List UInt8×List UInt8:=piece.foldl (gQ c) x
theorem vQ (a:List UInt8) (b:UInt8):(j4 a b).1.length≤102∧∀l,(j4 a b).2=some l→l.1.length≤100∧(l.2=false→fp l.1):=by
 unfold j4
 split
 ·refine ⟨by simp,fun l e=>?_⟩
  injection e with e;rw [←e];exact Hl _
 ·exact ⟨DI _,fun l e=>by cases e⟩
theorem FW {c:bX} (f:ij c=true) {x:bG×aa×List UInt8×List UInt8} (h:gM c x.1 x.2.1 x.2.2.1) (b:UInt8):gM c (gQ c x b).1 (gQ c x b).2.1 (gQ c x b).2.2.1∧(gQ c x b).2.2.2.length≤x.2.2.2.length+3000:=by
 unfold gQ
 split
 ·exact ⟨h,by omega⟩
 ·have a:=vQ x.1.wait b
  rcases hx:j4 x.1.wait b with ⟨e,o⟩;rw [hx] at a;have d:gM c {x.1 with wait:=e} x.2.1 x.2.2.1:=⟨h.tx,h.time,h.len,h.recs,a.1⟩
  cases o with
  | none=>exact ⟨d,Nat.le_add_right _ _⟩
  | some l=>
   obtain ⟨g,_,i⟩:=iU f d l.1 l.2 (a.2 l rfl).1;refine ⟨g,?_⟩;show (x.2.2.2++(aO c {x.1 with wait:=e} x.2.1 x.2.2.1 l.1 l.2).2.2.2.flatten).length≤_;rw [List.length_append];exact Nat.add_le_add_left i.2 _
theorem qO {c:bX} (d:ij c=true):∀(a:List UInt8) (x:bG×aa×List UInt8×List UInt8),gM c x.1 x.2.1 x.2.2.1→gM c (cL c x a).1 (cL c x a).2.1 (cL c x a).2.2.1∧(cL c x a).2.2.2.length≤x.2.2.2.length+3000 * a.length
 | [],x,h=>⟨h,by show x.2.2.2.length≤_;omega⟩
 | b::r,x,h=>by
  obtain ⟨e,g⟩:=FW d h b;obtain ⟨f,i⟩:=qO d r (gQ c x b) e;refine ⟨f,?_⟩;show (cL c (gQ c x b) r).2.2.2.length≤_;rw [List.length_cons];omega
theorem uh {c:bX} {x:bG×aa×List UInt8×List UInt8} (h:x.1.over=true):∀a,cL c x a=x
 | []=>rfl
 | b::r=>by
  show cL c (gQ c x b) r=x;have:gQ c x b=x:=by unfold gQ;rw [h];rfl
  rw [this];exact uh h r
theorem CO (c:bX) (x:bG×aa×List UInt8×List UInt8) (a:List UInt8) (k:Nat) (h:k < a.length):cL c x (a.take (k+1))=gQ c (cL c x (a.take k)) a[k]:=by
 unfold cL;rw [List.take_succ_eq_append_getElem h,List.foldl_append];rfl
structure zS [Kn] (E:Nat→Prop) (pp pb mb sb ch:Nat) (c:bX) (w:World) (A:Nat→Prop) (q:Nat→Nat) (vr:Value) (S:aa) (recs:List UInt8) (vw:Value) (s:bG):Prop where
 env:gg E w pp c
 ses:cI w A pp pb sb ch vw [] s
 row:lF w vw s.wait
 bag:fv w pb mb q vr S recs
 ea:∀k,E k→¬A k
 eb:∀k,E k→¬an w pb mb q vr S k
 ab:∀k,A k→¬an w pb mb q vr S k
 wd:∀g,vw.ownBlock=some g→¬E g∧¬A g∧¬an w pb mb q vr S g
def wY (w:World) (pb mb:Nat) (A:Nat→Prop) (q:Nat→Nat) (vr:Value) (S:aa) (vw:Value) (k:Nat):Prop:=A k∨an w pb mb q vr S k∨vw.ownBlock=some k
def tq [Kn] (E A:Nat→Prop) (pp pb mb sb ch:Nat) (c:bX) (q:Nat→Nat) (vr:Value) (S:aa) (vw:Value) (w:World) (s':bG) (S':aa) (recs':List UInt8) (w':World):Prop:=
 ∃A' q' vr' vw',zS E pp pb mb sb ch c w' A' q' vr' S' recs' vw' s'∧(∀k,wY w' pb mb A' q' vr' S' vw' k→wY w pb mb A q vr S vw k∨w.heap.size≤k)∧aH (wY w pb mb A q vr S vw) w w'
def jl [Kn] (E:Nat→Prop) (pp pb mb sb ch:Nat) (c:bX) (R:Nat→Prop) (w:World) (x:bG×aa×List UInt8×List UInt8) (wr:World):Prop:=
 ∃A q vr vw v,fG E pp pb mb sb ch w.heap.size c wr A q vr x.2.1 x.2.2.1 vw v x.2.2.2 [] x.1∧(∀k,ug wr pb mb w.heap.size A q vr x.2.1 vw v k→R k∨w.heap.size≤k)∧aH R w wr∧gM c x.1 x.2.1 x.2.2.1
section
variable {E R:Nat→Prop} {pp pb mb sb ch:Nat} {c:bX} {w wr w':World} {A:Nat→Prop} {q:Nat→Nat} {vr:Value} {S:aa} {recs:List UInt8} {vw:Value} {s:bG} {x:bG×aa×List UInt8×List UInt8}
theorem xD {a:Nat} {v:Value} (b:∀k,an w' pb mb q vr S k→an wr pb mb q vr S k) {k:Nat} (h:ug w' pb mb a A q vr S vw v k):ug wr pb mb a A q vr S vw v k:=by
 rcases h with h | h | h
 ·exact .inl h
 ·exact .inr (.inl (b k h))
 ·exact .inr (.inr h)
theorem jl.below [Kn] (h:jl E pp pb mb sb ch c R w x wr) (b:Below wr.heap.size wr w'):jl E pp pb mb sb ch c R w x w':=by
 obtain ⟨A,q,vr,vw,v,d,f,g,i⟩:=h;have a:∀k,an w' pb mb q vr x.2.1 k→an wr pb mb q vr x.2.1 k:=fun k e=>e.imp (fun e=>cR d.bag.inn b e) id;exact ⟨A,q,vr,vw,v,d.below b,fun k j=>f k (xD a j),g.trans (aH.below b) (fun _ _ e=>e),i⟩
theorem jl.over [Kn] (h:jl E pp pb mb sb ch c R w x wr):wr.cell? ⟨sb,7,none⟩=some (.bool x.1.over):=by
 obtain ⟨A,q,vr,vw,v,b,e,f,g⟩:=h;obtain ⟨i,a,d⟩:=b.ses.ex;exact a.cell 7
theorem jl.start [Kn] (h:zS E pp pb mb sb ch c w A q vr S recs vw s) (p:gM c s S recs):jl E pp pb mb sb ch c (wY w pb mb A q vr S vw) w (s,S,recs,[]) (w.alloc (.cells #[.pointer none,.slice none 0 0] 133)):=by
 have b:Below w.heap.size w (w.alloc (.cells #[.pointer none,.slice none 0 0] 133)):=(Below.refl _ _).alloc (Nat.le_refl _) _;have i:=heap_alloc_new w (.cells #[.pointer none,.slice none 0 0] 133);obtain ⟨W,n⟩:∃W,w.alloc (.cells #[.pointer none,.slice none 0 0] 133)=W:=⟨_,rfl⟩;rw [n] at b i ⊢;have a:∀k,an W pb mb q vr S k→an w pb mb q vr S k:=fun k e=>e.imp (fun e=>cR h.bag.inn b e) id;obtain ⟨j,_⟩:=h.bag.chg (aH.below b:aH (fun _=>False) w W) (fun _ _ e=>e);have f:∀k,an w pb mb q vr S k→k < w.heap.size:=fun k e=>an.lt h.bag e;refine ⟨A,q,vr,vw,.slice none 0 0,⟨h.env.below b,h.ses.below b,bC h.row (aH.below b:aH (fun _=>False) w W) (fun _ _ e=>e),j,⟨⟨none,.inl rfl,i⟩,⟨rfl,.inl ⟨rfl,rfl⟩⟩,(by intro e;cases e)⟩,h.ea,fun k e y=>h.eb k e (a k y),fun k e y=>h.ab k e (a k y),?_,?_,(by intro g e;cases e)⟩,?_,aH.below b,p⟩
 ·intro g d;obtain ⟨l,m⟩:=dm h.row d;have:=ah m;exact ⟨(h.wd g d).1,(h.wd g d).2.1,fun y=>(h.wd g d).2.2 (a g y),by omega,(by intro e;cases e)⟩
 ·exact ⟨fun y=>by have:=h.env.lt _ y;omega,fun y=>by have:=h.ses.lt _ y;omega,fun y=>by have:=f _ (a _ y);omega⟩
 ·intro k o
  rcases o with e | e | e | e | e
  ·exact .inl (.inl e)
  ·exact .inl (.inr (.inl (a k e)))
  ·exact .inr (Nat.le_of_eq e.symm)
  ·cases e
  ·exact .inl (.inr (.inr e))
theorem fG.chg [Kn] {B:Nat→Prop} {j:Nat} {v:Value} {d:List UInt8} {l:List (List UInt8)} (h:fG E pp pb mb sb ch j c w A q vr S recs vw v d l s) (i:aH B w w') (n:∀k,E k→¬B k) (f:∀k,ug w pb mb j A q vr S vw v k→¬B k):fG E pp pb mb sb ch j c w' A q vr S recs vw v d l s∧∀k,an w' pb mb q vr S k→an w pb mb q vr S k:=by
 obtain ⟨m,b⟩:=h.bag.chg i (fun k e=>f k (.inr (.inl e)));exact ⟨⟨h.env.chg i n,h.ses.chg i (fun k e=>f k (.inl e)),bC h.row i (fun g e=>f g (.inr (.inr (.inr (.inr e))))),m,j6 h.bld i (f j (.inr (.inr (.inl rfl)))) (fun g e=>f g (.inr (.inr (.inr (.inl e))))),h.ea,fun k e x=>h.eb k e (b k x),fun k e x=>h.ab k e (b k x),fun g a=>⟨(h.wd g a).1,(h.wd g a).2.1,fun x=>(h.wd g a).2.2.1 (b g x),(h.wd g a).2.2.2⟩,⟨h.ld.1,h.ld.2.1,fun x=>h.ld.2.2 (b _ x)⟩,fun g a=>⟨(h.vd g a).1,(h.vd g a).2.1,fun x=>(h.vd g a).2.2 (b g x)⟩⟩,b⟩
theorem jl.take [Kn] {W:World} (h:jl E pp pb mb sb ch c R w x wr) (t:Below wr.heap.size wr W) (b:UInt8):
  Calls Tryz.prog 66 #[.pointer (some ⟨sb,2,none⟩),.int .u8 (b.toNat:Int)] W fun e w'=>e= .returned (th (j4 x.1.wait b).2)∧(∀i,aH (fun k=>wr.heap.size≤k∧k < W.heap.size) w' i→jl E pp pb mb sb ch c R w ({x.1 with wait:=(j4 x.1.wait b).1},x.2) i)∧W.heap.size≤w'.heap.size∧∀(k:Nat) (C:Array Value) (z:Nat×Nat),W.heap[k]? =some (Obj.cells C 138 z)→w'.heap[k]? =some (Obj.cells C 138 z):=by
 obtain ⟨A,q,vr,vw,v,a,M,D,l⟩:=h;have m:=a.below t;have f:∀k,an W pb mb q vr x.2.1 k→an wr pb mb q vr x.2.1 k:=fun k e=>e.imp (fun e=>cR a.bag.inn t e) id;have d:∀k,ug W pb mb w.heap.size A q vr x.2.1 vw v k→R k∨w.heap.size≤k:=fun k g=>M k (xD f g);have j:aH R w W:=D.trans (aH.below t) (fun _ _ e=>e);obtain ⟨P,o,H⟩:=m.ses.ex;refine (IC sb (iq pp pb ch vw P x.1) vw x.1.wait b W ⟨o.blk,o.size,rfl,m.row⟩ l.wait m.env.utf (fun e=>?_) (fun e=>?_)).mono ?_
 ·rcases e with e | e
  ·exact a.ea _ a.env.efir (by rw [e];exact a.ses.asb)
  ·exact (a.wd _ e).1 a.env.efir
 ·rcases e with e | e
  ·exact a.ea _ a.env.eacc (by rw [e];exact a.ses.asb)
  ·exact (a.wd _ e).1 a.env.eacc
 ·rintro e Q ⟨rfl,N⟩;obtain ⟨n,I,p,u,B⟩:=m.cut rfl o H N
  have r:∀k,ug Q pb mb w.heap.size A q vr x.2.1 n v k→¬(wr.heap.size≤k∧k < W.heap.size):=fun k g=>by
   rcases g with e | e | e | e | e
   ·have:=a.ses.lt k e;omega
   ·have:=an.lt a.bag (f k (B k e));omega
   ·have:=a.blLt;omega
   ·have:=a.vLt e;omega
   ·rcases u k e with e | e
    ·have:=a.rowLt e;omega
    ·omega
  refine ⟨rfl,fun i G=>?_,p.size,fun k C z e=>p.some_ e (fun y=>?_)⟩
  ·obtain ⟨K,L⟩:=I.chg G (fun k e=>by have:=a.env.lt k e;omega) r;refine ⟨A,q,vr,n,v,K,fun k g=>?_,(j.trans p (fun k g e=>?_)).trans G (fun k g e=>?_),⟨l.tx,l.time,l.len,l.recs,(vQ _ _).1⟩⟩
   ·rcases g with e | e | e | e | e
    ·exact d k (.inl e)
    ·exact d k (.inr (.inl (B k (L k e))))
    ·exact d k (.inr (.inr (.inl e)))
    ·exact d k (.inr (.inr (.inr (.inl e))))
    ·rcases u k e with e | e
     ·exact d k (.inr (.inr (.inr (.inr e))))
     ·exact .inr (Nat.le_trans j.size e)
   ·have O:ug W pb mb w.heap.size A q vr x.2.1 vw v k:=by
     rcases e with e | e
     ·exact .inl (by rw [e];exact a.ses.asb)
     ·exact .inr (.inr (.inr (.inr e)))
    exact (d k O).elim id (fun e=>by omega)
   ·have:=D.size;omega
  ·rcases y with y | y
   ·rw [y,o.blk] at e;simp at e
   ·obtain ⟨J,F⟩:=dm m.row y;rw [e] at F;simp at F
theorem Ec {d:World} {bx b a:Nat} {x y:Value} (h:b≤bx∧bx < a):aH (fun k=>b≤k∧k < a) d ((d.setCell ⟨bx,0,none⟩ x).setCell ⟨bx,1,none⟩ y):=(aH.same (((aL.refl _ _).setCell _).setCell _)).mono (fun k _ e=>by rw [e];exact h)
theorem jl.line [Kn] (h:jl E pp pb mb sb ch c R w x wr) (l:List UInt8×Bool) (b:l.1.length≤100∧(l.2=false→fp l.1)) (a:x.2.2.2.length≤1099511627776):
  Calls Tryz.prog 67 #[.pointer (some ⟨sb,0,none⟩),.agg #[.string (bs l.1),.bool l.2],.pointer (some ⟨w.heap.size,0,none⟩)] wr fun e w'=>e= .returned (.tuple #[])∧jl E pp pb mb sb ch c R w ((aO c x.1 x.2.1 x.2.2.1 l.1 l.2).1,(aO c x.1 x.2.1 x.2.2.1 l.1 l.2).2.1,(aO c x.1 x.2.1 x.2.2.1 l.1 l.2).2.2.1,x.2.2.2++(aO c x.1 x.2.1 x.2.2.1 l.1 l.2).2.2.2.flatten) w':=by
 obtain ⟨A,q,vr,vw,v,g,i,j,m⟩:=h;refine (E5 g m l.1 l.2 b.1 b.2 a).mono ?_;rintro e B ⟨rfl,o,y,d,f,z,r,t,u⟩;obtain ⟨p,_,_⟩:=iU g.env.may m l.1 l.2 b.1;refine ⟨rfl,o,y,d,f,z,r,fun k n=>(t k n).elim (i k) (fun e=> .inr (Nat.le_trans j.size e)),j.trans u (fun k n e=>(i k e).elim id (fun e=>by omega)),p⟩
theorem jl.done [Kn] (_:zS E pp pb mb sb ch c w A q vr S recs vw s) (u:jl E pp pb mb sb ch c (wY w pb mb A q vr S vw) w x wr):
  Calls Tryz.prog 64 #[.pointer (some ⟨w.heap.size,0,none⟩)] wr fun e w'=>e= .returned (.string (bs x.2.2.2))∧tq E A pp pb mb sb ch c q vr S vw w x.1 x.2.1 x.2.2.1 w':=by
 obtain ⟨o,m,f,j,n,a,i,t,v⟩:=u;refine (mi 0 w.heap.size n x.2.2.2 wr a.bld).mono ?_;rintro e z ⟨rfl,b⟩;have r:∀k,an wr pb mb m f x.2.1 k→¬n.ownBlock=some k:=fun k e y=>(a.vd k y).2.2 e;obtain ⟨p,h⟩:=a.bag.chg b r;refine ⟨rfl,o,m,f,j,⟨a.env.chg b (fun k e y=>(a.vd k y).1 e),a.ses.chg b (fun k e y=>(a.vd k y).2.1 e),bC a.row b (fun g d y=>(a.wd g d).2.2.2.2 y),p,a.ea,fun k e y=>a.eb k e (h k y),fun k e y=>a.ab k e (h k y),fun g d=>⟨(a.wd g d).1,(a.wd g d).2.1,fun y=>(a.wd g d).2.2.1 (h g y)⟩⟩,fun k l=>?_,t.trans b (fun k l e=>?_)⟩
 ·rcases l with e | e | e
  ·exact i k (.inl e)
  ·exact i k (.inr (.inl (h k e)))
  ·exact i k (.inr (.inr (.inr (.inr e))))
 ·exact (i k (.inr (.inr (.inr (.inl e))))).elim id (fun e=>by omega)
theorem GV [Kn] (h:zS E pp pb mb sb ch c w A q vr S recs vw s) (hp:gM c s S recs) (a:List UInt8) (hl:a.length≤1048576):
  Calls Tryz.prog 40 #[.pointer (some ⟨sb,0,none⟩),.string (bs a)] w fun e w'=>e= .returned (.string (bs (cL c (s,S,recs,[]) a).2.2.2))∧tq E A pp pb mb sb ch c q vr S vw w (cL c (s,S,recs,[]) a).1 (cL c (s,S,recs,[]) a).2.1 (cL c (s,S,recs,[]) a).2.2.1 w':=by
 have a2:=aG a;have HH:=Lib.hid h;have HS:=Lib.hid (jl.start h hp);obtain ⟨W0,a0⟩:∃W0:World,w.alloc (.cells #[.pointer none,.slice none 0 0] 133)=W0:=⟨_,rfl⟩;rw [a0] at HS
 have Z:Hid (∀k,(cL c (s,S,recs,[]) (a.take k)).2.2.2.length≤1099511627776):=Lib.hid (fun k=>by
  have:=(qO h.env.may (a.take k) (s,S,recs,[]) hp).2;have h2:(a.take k).length≤a.length:=by rw [List.length_take];omega
  have h3:([]:List UInt8).length=0:=rfl;simp only at this
  omega)
 clear h hp;go_enter Tryz.func40,Tryz.ntmps40;go_wp2_with fail
 go_loopw [6,7,8,11] (fun _ _ _ i w'=>∃k:Nat,k≤a.length∧i= .int .i64 k∧Hid (jl E pp pb mb sb ch c (wY w pb mb A q vr S vw) w (cL c (s,S,recs,[]) (a.take k)) w')) (fun _ _ _ i _=>a.length - (intOf i).toNat)
 case atStart=>exact ⟨0,Nat.zero_le _,rfl,HS⟩
 case round=>
  clear HS;obtain ⟨k,D,rfl,K⟩:=hrel;have ho:=K.out.over;obtain ⟨x,ex⟩:∃x,cL c (s,S,recs,[]) (a.take k)=x:=⟨_,rfl⟩;rw [ex] at K ho;have F:=Lib.hid ex;clear ex
  by_cases a1:k < a.length
  case neg=>
   have t:Hid (cL c (s,S,recs,[]) a=x):=Lib.hid (by rw [←F.out,List.take_of_length_le (by omega)]);have Y:=Lib.hid (jl.done HH.out K.out);go_wp2_with fail
   refine Y.out.mono ?_;rintro e d ⟨rfl,f⟩;have u:=Lib.hid f;clear f;go_wp2_with fail
   go_ret;rw [t.out];exact ⟨rfl,u.out⟩
  case pos=>
   obtain ⟨ov,eo⟩:∃b,x.1.over=b:=⟨_,rfl⟩;rw [eo] at ho;have J:=Lib.hid eo;clear eo
   cases ov with
   | true=>
    have t:Hid (cL c (s,S,recs,[]) a=x):=Lib.hid (by
     have e1:cL c (s,S,recs,[]) a=cL c x (a.drop k):=by
      rw [←F.out];unfold cL;rw [←List.foldl_append,List.take_append_drop]
     rw [e1]
     exact uh J.out _)
    have Y:=Lib.hid (jl.done HH.out K.out);go_wp2_with fail
    refine Y.out.mono ?_;rintro e d ⟨rfl,f⟩;have u:=Lib.hid f;clear f;go_wp2_with fail
    go_ret;rw [t.out];exact ⟨rfl,u.out⟩
   | false=>
    obtain ⟨b,eb⟩:∃b,a[k]=b:=⟨_,rfl⟩;have T:=Gt a k (by omega);rw [eb] at T;have G:Hid (cL c (s,S,recs,[]) (a.take (k+1))=gQ c x b):=Lib.hid (by rw [CO c _ a k a1,F.out,eb]);have H:=Lib.hid (vQ x.1.wait b);have g:=Lib.hid (K.out.take (W:=wr.drew) ((Below.refl _ _).drew) b);have m:=Lib.hid (K.out.take (W:=(wr.alloc (.cells #[.string ⟨#[]⟩,.bool false] 138)).drew) (((Below.refl _ _).alloc (Nat.le_refl _) _).drew) b);have O:Hid ((wr.alloc (.cells #[.string ⟨#[]⟩,.bool false] 138)).drew.heap[wr.heap.size]? =some (.cells #[.string ⟨#[]⟩,.bool false] 138 (0,0))):=Lib.hid (heap_alloc_new wr _);obtain ⟨y,ey⟩:∃y,j4 x.1.wait b=y:=⟨_,rfl⟩;have N:=Lib.hid ey;rw [ey] at H g m;clear ey eb;obtain ⟨U,o⟩:=y
    cases o with
    | none=>
     have v:Hid (gQ c x b=({x.1 with wait:=U},x.2)):=Lib.hid (by
      unfold gQ;rw [J.out,N.out]
      rfl)
     simp only [th] at H g m;go_wp2_with fail
     go_region_law (first
      | (go_simp;go_at_call 66;refine g.out.mono ?_;rintro e d ⟨rfl,f,hs,D⟩;have u:=Lib.hid f;clear f D;dsimp only)
      | (go_simp;go_at_call 66;refine m.out.mono ?_;rintro e d ⟨rfl,f,hs,D⟩;have u:=Lib.hid f;have z:=D _ _ _ O.out;have q0:d.cell? ⟨wr.heap.size,0,none⟩=some (.string ⟨#[]⟩):=(by rw [Lib.cell_of_heap z];rfl);have q1:d.cell? ⟨wr.heap.size,1,none⟩=some (.bool false):=(by rw [Lib.cell_of_heap z];rfl);have qf:=fun j=>Lib.frozen_of_heap z j;have P:=Lib.hid z;clear f z D;dsimp only))
     ·have r:=Lib.hid (u.out _ (aH.below ((Below.refl _ d).alloc (Nat.le_refl _) (.cells #[.string ⟨#[]⟩,.bool false] 138))));go_wp2_with fail
      exact ⟨⟨k+1,by omega,by go_num,Lib.hid (by rw [G.out,v.out];exact r.out)⟩,by simp [intOf];omega⟩
     all_goals
      have r:=Lib.hid (u.out _ (Ec (x:= .string ⟨#[]⟩) (y:= .bool false) (bx:=wr.heap.size) ⟨Nat.le_refl _,by simp⟩));go_wp2_with fail
      exact ⟨⟨k+1,by omega,by go_num,Lib.hid (by rw [G.out,v.out];exact r.out)⟩,by simp [intOf];omega⟩
    | some l=>
     obtain ⟨p,n⟩:=l
     have v:Hid (gQ c x b=((aO c {x.1 with wait:=U} x.2.1 x.2.2.1 p n).1,(aO c {x.1 with wait:=U} x.2.1 x.2.2.1 p n).2.1,(aO c {x.1 with wait:=U} x.2.1 x.2.2.1 p n).2.2.1,x.2.2.2++(aO c {x.1 with wait:=U} x.2.1 x.2.2.1 p n).2.2.2.flatten)):=Lib.hid (by
      unfold gQ;rw [J.out,N.out]
      rfl)
     have L:Hid (x.2.2.2.length≤1099511627776):=Lib.hid (by have:=Z.out k;rw [F.out] at this;exact this);have M:=Lib.hid (H.out.2 (p,n) rfl);simp only [th] at H g m;go_wp2_with fail
     go_region_law (first
      | (go_simp;go_at_call 66;refine g.out.mono ?_;rintro e d ⟨rfl,f,hs,D⟩;have u:=Lib.hid f;clear f D;dsimp only)
      | (go_simp;go_at_call 66;refine m.out.mono ?_;rintro e d ⟨rfl,f,hs,D⟩;have u:=Lib.hid f;have z:=D _ _ _ O.out;have q0:d.cell? ⟨wr.heap.size,0,none⟩=some (.string ⟨#[]⟩):=(by rw [Lib.cell_of_heap z];rfl);have q1:d.cell? ⟨wr.heap.size,1,none⟩=some (.bool false):=(by rw [Lib.cell_of_heap z];rfl);have qf:=fun j=>Lib.frozen_of_heap z j;have P:=Lib.hid z;clear f z D;dsimp only))
     ·have Q:Below d.heap.size d (d.alloc (.cells #[.string (bs p),.bool n] 138)):=(Below.refl _ d).alloc (Nat.le_refl _) _;have V:=heap_alloc_new d (.cells #[.string (bs p),.bool n] 138);have r:=u.out _ (aH.below Q);obtain ⟨W9,C⟩:∃W:World,d.alloc (.cells #[.string (bs p),.bool n] 138)=W:=⟨_,rfl⟩;rw [C] at r V ⊢;have c0:W9.cell? ⟨d.heap.size,0,none⟩=some (.string (bs p)):=by rw [Lib.cell_of_heap V];rfl
      have c1:W9.cell? ⟨d.heap.size,1,none⟩=some (.bool n):=by rw [Lib.cell_of_heap V];rfl
      have X:=Lib.hid (r.line (p,n) M.out L.out);clear Q V r C g m;go_wp2_with fail
      refine X.out.mono ?_;rintro e w2 ⟨rfl,B⟩;have I:=Lib.hid B;clear B;go_wp2_with fail
      exact ⟨⟨k+1,by omega,by go_num,Lib.hid (by rw [G.out,v.out];exact I.out)⟩,by simp [intOf];omega⟩
     all_goals
      have S9:aL wr.heap.size d ((d.setCell ⟨wr.heap.size,0,none⟩ (.string (bs p))).setCell ⟨wr.heap.size,1,none⟩ (.bool n)):=((aL.refl _ _).setCell _).setCell _;obtain ⟨c0,c1,_⟩:=qC (x:= .string (bs p)) (y:= .bool n) P.out;have r:=u.out _ (Ec (x:= .string (bs p)) (y:= .bool n) (bx:=wr.heap.size) ⟨Nat.le_refl _,by simp⟩);obtain ⟨W9,C⟩:∃W:World,(d.setCell ⟨wr.heap.size,0,none⟩ (.string (bs p))).setCell ⟨wr.heap.size,1,none⟩ (.bool n)=W:=⟨_,rfl⟩;rw [C] at r c0 c1 ⊢;have X:=Lib.hid (r.line (p,n) M.out L.out);clear S9 r C g m q0 q1 qf;go_wp2_with fail
      refine X.out.mono ?_;rintro e w2 ⟨rfl,B⟩;have I:=Lib.hid B;clear B;go_wp2_with fail
      exact ⟨⟨k+1,by omega,by go_num,Lib.hid (by rw [G.out,v.out];exact I.out)⟩,by simp [intOf];omega⟩
end
def dI (c:bX) (addr:Int):bG:=⟨c.nets.any (iZ addr),false,false,false,[],none⟩
def mX (c:bX):List UInt8:=[50,50,48,32]++cQ c++[13,10]
theorem Hs {c:bX} (h:ij c=true):∀x∈c.nets,0≤x.2∧x.2≤32:=by
 unfold ij nr at h;simp only [Bool.and_eq_true] at h;obtain ⟨⟨⟨⟨⟨⟨⟨⟨_,_⟩,⟨_,a⟩⟩,_⟩,_⟩,_⟩,_⟩,_⟩,_⟩:=h;intro x b;have:=List.all_eq_true.1 a x b;unfold qg cF at this;simp only [Bool.and_eq_true,decide_eq_true_eq] at this;exact this.1.1
theorem aH.toBelow {B:Nat→Prop} {a b:World} {s:Nat} (h:aH B a b) (c:∀k,B k→s≤k) (f:s≤a.heap.size):Below s a b:=⟨h.still.1,h.still.2.1,h.still.2.2,h.size,fun k d=>h.block k (by omega) (fun e=>by have:=c k e;omega)⟩
theorem rk {w:World} {sb b f:Nat} {C:Array Value} {G:List (List UInt8)} {v:Value} {i:List UInt8} (A:bT w sb b C G) (Y:jE 0 w f v i) (y:sb≠f) (J:b≠f) (X:v.ownBlock≠some sb) (Z:∀l∈G,l.length≤1048576) (K:i.length+G.flatten.length≤140737488355328):
  Calls Tryz.prog 63 #[.pointer (some ⟨sb,0,none⟩),.pointer (some ⟨f,0,none⟩)] w fun e t=>e= .returned (.tuple #[])∧∃d,bT t sb b C []∧jE 0 t f d (i++G.flatten)∧(∀g,d.ownBlock=some g→v.ownBlock=some g∨w.heap.size≤g)∧aH (fun k=>k=b∨k=f∨v.ownBlock=some k) w t:=by
 obtain ⟨sq,r,D⟩:=A.chan
 have F:¬(sb=b∨sb=f∨v.ownBlock=some sb):=fun x=>by
  rcases x with x | x | x
  ·exact A.ne x
  ·exact y x
  ·exact X x
 let Bd:List UInt8→World→Prop:=fun a t=>∃d,jE 0 t f d a∧(∀g,d.ownBlock=some g→v.ownBlock=some g∨w.heap.size≤g)∧aH (fun k=>k=b∨k=f∨v.ownBlock=some k) w t∧∃m q p,t.heap[b]? =some (.chan 3 m false q p false)
 have P:=zB Bd sb b sq r false (.pointer (some ⟨f,0,none⟩)) G i w ?_ ?_ ?_ ⟨v,Y,fun g e=> .inl e,aH.refl _ _,_,_,_,D⟩ D Z K
 ·refine P.mono ?_;rintro e t ⟨rfl,q,p,⟨d,s,u,j,_⟩,c⟩;exact ⟨rfl,d,⟨j.some_ A.blk F,A.size,A.told,q,p,c⟩,s,u,j⟩
 ·rintro a l W ⟨d,s,u,j,m,q,p,c⟩ _ E
  have n:d.ownBlock≠some b:=fun e=>by
   obtain ⟨H,z,y⟩:=gB s.row e;rw [c] at y;cases y
  refine (r8 0 f d a l W s (Nat.zero_le _) E).mono ?_;rintro e Q ⟨⟨rv,rfl⟩,⟨v2,T,U⟩,I,V,O⟩
  have L:aH (fun k=>k=f∨d.ownBlock=some k) W Q:=⟨O,fun k B S=>by
   rw [Array.getElem?_eq_getElem B]
   exact I k _ (Array.getElem?_eq_getElem B) (fun e=>S (.inl e)) (fun e=>S (.inr e)),V⟩
  refine ⟨⟨rv,rfl⟩,⟨v2,T,fun g M=>(U g M).elim (u g) (fun e=> .inr (Nat.le_trans j.size e)),j.trans L (fun k B e=>e.elim (fun e=> .inr (.inl e)) (fun e=>(u k e).elim (fun e=> .inr (.inr e)) (fun e=>absurd B (by omega)))),m,q,p,I b _ c J n⟩,fun o ho=>I b o ho J n⟩
 ·rintro a W ⟨d,s,u,j,_⟩;rw [Lib.cell_of_heap (j.some_ A.blk F)];exact A.told
 ·rintro a W m h q p ⟨d,s,u,j,_⟩ c;have N:b < W.heap.size:=ah c;have R:aL b W (W.setChan b 3 h false q (p+1) false):=⟨by simp [World.setChan],fun k B=>by simp [World.setChan,Array.getElem?_setIfInBounds_ne (Ne.symm B)],⟨rfl,rfl,rfl⟩⟩
  have n:d.ownBlock≠some b:=fun e=>by
   obtain ⟨H,z,y⟩:=gB s.row e;rw [c] at y;cases y
  refine ⟨d,j6 s (aH.same R) (fun e=>J e.symm) (fun g M e=>n (by rw [←e];exact M)),u,j.trans (aH.same R) (fun _ _ e=> .inl e),h,q,p+1,Conc.heap_setChan W b 3 h false q (p+1) false N⟩
structure Cc (w W:World) (pp pb sb ch:Nat) (c:bX) (addr:Int):Prop where
 ses:bT W sb ch (iq pp pb ch (.slice none 0 0) (.pointer none) (dI c addr)) []
 sb:w.heap.size≤sb
 ch:w.heap.size≤ch
 below:Below w.heap.size w W
theorem Cc.first {w b:World} {f e:Nat} {c:bX} {a:Int} (d:Below (w.alloc (.chan 3 #[] false 0 0 false)).drew.heap.size (w.alloc (.chan 3 #[] false 0 0 false)).drew b):Cc w (b.alloc (.cells #[.pointer (some ⟨f,0,none⟩),.pointer (some ⟨e,0,none⟩),.slice none 0 0,.chan (some w.heap.size),.bool (c.nets.any (iZ a)),.bool false,.bool false,.bool false,.pointer none] 130)) f e b.heap.size w.heap.size c a:=by
 have j:(w.alloc (.chan 3 #[] false 0 0 false)).drew.heap[w.heap.size]? =some (.chan 3 #[] false 0 0 false):=heap_alloc_new w _;have g:Below b.heap.size b (b.alloc (.cells #[.pointer (some ⟨f,0,none⟩),.pointer (some ⟨e,0,none⟩),.slice none 0 0,.chan (some w.heap.size),.bool (c.nets.any (iZ a)),.bool false,.bool false,.bool false,.pointer none] 130)):=(Below.refl _ _).alloc (Nat.le_refl _) _;have i:w.heap.size+1≤b.heap.size:=by have:=d.size;simpa using this
 have h:Below w.heap.size w (w.alloc (.chan 3 #[] false 0 0 false)).drew:=((Below.refl _ _).alloc (Nat.le_refl _) _).drew;exact ⟨⟨heap_alloc_new b _,rfl,rfl,0,0,ae g (ae d j)⟩,by omega,Nat.le_refl _,(h.trans (d.mono (by simp))).trans (g.mono (by omega))⟩
theorem Cc.later {w a:World} {f e:Nat} {c:bX} {b:Int} (h:Below w.drew.heap.size w.drew a):Cc w ((a.alloc (.chan 3 #[] false 0 0 false)).alloc (.cells #[.pointer (some ⟨f,0,none⟩),.pointer (some ⟨e,0,none⟩),.slice none 0 0,.chan (some a.heap.size),.bool (c.nets.any (iZ b)),.bool false,.bool false,.bool false,.pointer none] 130)) f e (a.heap.size+1) a.heap.size c b:=by
 have k:(a.alloc (.chan 3 #[] false 0 0 false)).heap[a.heap.size]? =some (.chan 3 #[] false 0 0 false):=heap_alloc_new a _;have j:(a.alloc (.chan 3 #[] false 0 0 false)).heap.size=a.heap.size+1:=by simp
 have g:Below a.heap.size a (a.alloc (.chan 3 #[] false 0 0 false)):=(Below.refl _ _).alloc (Nat.le_refl _) _;obtain ⟨W,m⟩:∃W:World,a.alloc (.chan 3 #[] false 0 0 false)=W:=⟨_,rfl⟩;rw [m] at k j g ⊢;have i:Below W.heap.size W (W.alloc (.cells #[.pointer (some ⟨f,0,none⟩),.pointer (some ⟨e,0,none⟩),.slice none 0 0,.chan (some a.heap.size),.bool (c.nets.any (iZ b)),.bool false,.bool false,.bool false,.pointer none] 130)):=(Below.refl _ _).alloc (Nat.le_refl _) _;have d:w.heap.size≤a.heap.size:=h.size;have l:Below w.heap.size w w.drew:=(Below.refl _ _).drew;exact ⟨⟨by rw [←j];exact heap_alloc_new W _,rfl,rfl,0,0,ae i k⟩,by omega,d,((l.trans (h.mono (Nat.le_refl _))).trans (g.mono d)).trans (i.mono (by omega))⟩
def Ev (pp pb:Nat) (c:bX) (addr:Int) (w:World) (e:Ending) (w':World):Prop:=
 ∃sb ch,e= .returned (.tuple #[.pointer (some ⟨sb,0,none⟩),.string (bs (mX c))])∧bT w' sb ch (iq pp pb ch (.slice none 0 0) (.pointer none) (dI c addr)) []∧w.heap.size≤sb∧w.heap.size≤ch∧Below w.heap.size w w'
theorem EA {E:Nat→Prop} {d pb:Nat} {c:bX} {w:World} (he:gg E w d c) (h:Int):
  Calls Tryz.prog 37 #[.pointer (some ⟨d,0,none⟩),.pointer (some ⟨pb,0,none⟩),.int .i64 h] w (Ev d pb c h w):=by
 obtain ⟨vD,vN,vU,vW,I,_⟩:=he.set;have y0:w.cell? ⟨d,0,none⟩=some (.string c.host):=I.cell 0 (by decide);have y1:w.cell? ⟨d,1,none⟩=some vD:=I.cell 1 (by decide);have y2:w.cell? ⟨d,2,none⟩=some vN:=I.cell 2 (by decide);have y3:w.cell? ⟨d,3,none⟩=some vU:=I.cell 3 (by decide);have y4:w.cell? ⟨d,4,none⟩=some (.int .i64 c.most):=I.cell 4 (by decide);have y5:w.cell? ⟨d,5,none⟩=some (.int .i64 c.size):=I.cell 5 (by decide);have y6:w.cell? ⟨d,6,none⟩=some vW:=I.cell 6 (by decide);have y7:w.cell? ⟨d,7,none⟩=some (.int .i64 c.life):=I.cell 7 (by decide);have y8:w.cell? ⟨d,8,none⟩=some (.int .i64 c.room):=I.cell 8 (by decide);have u:∀(o:Obj) (j:Nat),(w.alloc o).cell? ⟨d,j,none⟩=w.cell? ⟨d,j,none⟩:=fun o j=>World.cell?_of_block (((Below.refl _ w).alloc (Nat.le_refl _) o).block d (he.lt d he.epp));have a0:∀o:Obj,(w.alloc o).cell? ⟨d,0,none⟩=some (.string c.host):=fun o=>(u o 0).trans y0;have a1:∀o:Obj,(w.alloc o).cell? ⟨d,1,none⟩=some (vD):=fun o=>(u o 1).trans y1;have a2:∀o:Obj,(w.alloc o).cell? ⟨d,2,none⟩=some (vN):=fun o=>(u o 2).trans y2;have a3:∀o:Obj,(w.alloc o).cell? ⟨d,3,none⟩=some (vU):=fun o=>(u o 3).trans y3;have a4:∀o:Obj,(w.alloc o).cell? ⟨d,4,none⟩=some (.int .i64 c.most):=fun o=>(u o 4).trans y4;have a5:∀o:Obj,(w.alloc o).cell? ⟨d,5,none⟩=some (.int .i64 c.size):=fun o=>(u o 5).trans y5;have a6:∀o:Obj,(w.alloc o).cell? ⟨d,6,none⟩=some (vW):=fun o=>(u o 6).trans y6;have a7:∀o:Obj,(w.alloc o).cell? ⟨d,7,none⟩=some (.int .i64 c.life):=fun o=>(u o 7).trans y7;have a8:∀o:Obj,(w.alloc o).cell? ⟨d,8,none⟩=some (.int .i64 c.room):=fun o=>(u o 8).trans y8;have b2:Hid (∀W:World,Below w.heap.size w W→Calls Tryz.prog 61 #[.agg #[.string c.host,vD,vN,vU,.int .i64 c.most,.int .i64 c.size,vW,.int .i64 c.life,.int .i64 c.room],.int .i64 h] W fun e w'=>e= .returned (.bool (c.nets.any (iZ h)))∧Below W.heap.size W w'):=Lib.hid (fun W hb=>AK c vD vN vU vW h W (I.rows.below hb) I.small.nets (fun x hx=>Hs I.may x hx));obtain ⟨i,hi,c0,c1,b5⟩:=info_parts uk;have b6:∀W:World,(Instr.makeChan 124 (.int .i64 3)).run Tryz.prog W= .ok (.chan (some W.heap.size)) (W.alloc (.chan 3 #[] false 0 0 false)):=fun W=>Conc.run_makeChan (n:=3) Tryz.underlying124 hi .i64 (by decide) (by rw [b5];decide);clear I u;have b0:d < w.heap.size:=he.lt d he.epp;have b7:=he.host.2;have J:Hid ((⟨#[50,50,48,32]⟩:ByteArray)++c.host=bs ([50,50,48,32]++cQ c)):=Lib.hid (cE [50,50,48,32] (cQ c)).symm;have b8:c.host.size=(cQ c).length:=by rw [←sT c,aG]
 go_enter Tryz.func37,Tryz.ntmps37;go_wp2_with fail
 go_region_law (first
  | (go_simp;go_at_call 61;refine (b2.out _ (by first | exact (Below.refl _ _).drew | exact ((Below.refl _ _).alloc (Nat.le_refl _) _).drew)).mono ?_;rintro e w1 ⟨rfl,a9⟩;dsimp only))
 all_goals
  have f:Hid (Cc w _ d pb _ _ c h):=Lib.hid (by first | exact Cc.first a9 | exact Cc.later a9);clear a9 b2
 ·
  obtain ⟨b,D⟩:∃W:World,w1.alloc (.cells #[.pointer (some ⟨d,0,none⟩),.pointer (some ⟨pb,0,none⟩),.slice none 0 0,.chan (some w.heap.size),.bool (c.nets.any (iZ h)),.bool false,.bool false,.bool false,.pointer none] 130)=W:=⟨_,rfl⟩;rw [D] at f ⊢;have a:=f.out.below;have T:=heap_alloc_new b (.cells #[.pointer none,.slice none 0 0] 133);have v:Below b.heap.size b (b.alloc (.cells #[.pointer none,.slice none 0 0] 133)):=(Below.refl _ _).alloc (Nat.le_refl _) _;obtain ⟨C,P⟩:∃W:World,b.alloc (.cells #[.pointer none,.slice none 0 0] 133)=W:=⟨_,rfl⟩;rw [P] at T v;have y3:C.cell? ⟨d,0,none⟩=some (.string c.host):=((a.trans (v.mono a.size)).cell (by exact b0)).trans y0;have s3:=f.out.ses.chg (aH.below v:aH (fun _=>False) b C) (fun e=>e) (fun e=>e);have l1:=ah f.out.ses.blk;have l2:_ < b.heap.size:=ah f.out.ses.chan.choose_spec.choose_spec;have HT:=Lib.hid (s3.tell (by simp) ([50,50,48,32]++cQ c) (by rw [List.length_append];simp;omega));have K:Hid (jE 0 C b.heap.size (.slice none 0 0) []):=Lib.hid ⟨⟨none,.inl rfl,T⟩,⟨rfl,.inl ⟨rfl,rfl⟩⟩,(by intro e;cases e)⟩;have L:=Lib.hid (a.trans (v.mono a.size));have p:b.heap.size≤C.heap.size:=v.size;have A:=Lib.hid l1;have r:=Lib.hid l2;clear a T v s3 l1 l2 D;go_wp2_with fail
  rw [J.out];refine HT.out.mono ?_;rintro e S ⟨rfl,X,m⟩;have U:jE 0 S b.heap.size (.slice none 0 0) []:=j6 K.out (aH.same m) (fun e=>by have:=r.out;omega) (by intro g e;cases e);have B:=Lib.hid (rk X U (by have:=A.out;omega) (by have:=r.out;omega) (by intro e;cases e) (by intro l Z;simp at Z;rw [Z];simp;omega) (by simp;omega));have q:=Lib.hid (L.out.trans (m.below f.out.ch));have b4:S.heap.size=C.heap.size:=m.1;clear X m U;go_wp2_with fail
  refine B.out.mono ?_;rintro e w5 ⟨rfl,v5,Y,t,H,F⟩;have R:w.heap.size≤b.heap.size:=f.out.below.size
  have V:=q.out.trans (F.toBelow (s:=w.heap.size) (fun k e=>by
   rcases e with e | e | e
   ·rw [e];exact f.out.ch
   ·rw [e];exact R
   ·cases e) q.out.size)
  have N:=Lib.hid (mi 0 b.heap.size v5 _ w5 t);have O:=Lib.hid H;have M:=Lib.hid Y;have y:=Lib.hid V;have b1:=Lib.hid t;clear Y t H F V B;go_wp2_with fail
  refine N.out.mono ?_;rintro e w6 ⟨rfl,G⟩;have z:=Lib.hid G;clear G;go_wp2_with fail
  go_ret2
  have Q:∀g,v5.ownBlock=some g→S.heap.size≤g:=fun g e=>(O.out g e).elim (fun e=>by cases e) id;refine ⟨_,_,rfl,M.out.chg z.out (fun e=>?_) (fun e=>?_),f.out.sb,f.out.ch,y.out.trans (z.out.toBelow (fun k e=>Nat.le_trans q.out.size (Q k e)) y.out.size)⟩
  ·have:=Q _ e;have:=A.out;have:=p;omega
  ·have:=Q _ e;have:=r.out;have:=p;omega
 ·
  obtain ⟨b,D⟩:∃W:World,w1.alloc (.cells #[.pointer (some ⟨d,0,none⟩),.pointer (some ⟨pb,0,none⟩),.slice none 0 0,.chan (some w.heap.size),.bool (c.nets.any (iZ h)),.bool false,.bool false,.bool false,.pointer none] 130)=W:=⟨_,rfl⟩;rw [D] at f ⊢;have a:=f.out.below;have T:=heap_alloc_new b (.cells #[.pointer none,.slice none 0 0] 133);have v:Below b.heap.size b (b.alloc (.cells #[.pointer none,.slice none 0 0] 133)):=(Below.refl _ _).alloc (Nat.le_refl _) _;obtain ⟨C,P⟩:∃W:World,b.alloc (.cells #[.pointer none,.slice none 0 0] 133)=W:=⟨_,rfl⟩;rw [P] at T v;have y3:C.cell? ⟨d,0,none⟩=some (.string c.host):=((a.trans (v.mono a.size)).cell (by exact b0)).trans y0;have s3:=f.out.ses.chg (aH.below v:aH (fun _=>False) b C) (fun e=>e) (fun e=>e);have l1:=ah f.out.ses.blk;have l2:_ < b.heap.size:=ah f.out.ses.chan.choose_spec.choose_spec;have HT:=Lib.hid (s3.tell (by simp) ([50,50,48,32]++cQ c) (by rw [List.length_append];simp;omega));have K:Hid (jE 0 C b.heap.size (.slice none 0 0) []):=Lib.hid ⟨⟨none,.inl rfl,T⟩,⟨rfl,.inl ⟨rfl,rfl⟩⟩,(by intro e;cases e)⟩;have L:=Lib.hid (a.trans (v.mono a.size));have p:b.heap.size≤C.heap.size:=v.size;have A:=Lib.hid l1;have r:=Lib.hid l2;clear a T v s3 l1 l2 D;go_wp2_with fail
  rw [J.out];refine HT.out.mono ?_;rintro e S ⟨rfl,X,m⟩;have U:jE 0 S b.heap.size (.slice none 0 0) []:=j6 K.out (aH.same m) (fun e=>by have:=r.out;omega) (by intro g e;cases e);have B:=Lib.hid (rk X U (by have:=A.out;omega) (by have:=r.out;omega) (by intro e;cases e) (by intro l Z;simp at Z;rw [Z];simp;omega) (by simp;omega));have q:=Lib.hid (L.out.trans (m.below f.out.ch));have b4:S.heap.size=C.heap.size:=m.1;clear X m U;go_wp2_with fail
  refine B.out.mono ?_;rintro e w5 ⟨rfl,v5,Y,t,H,F⟩;have R:w.heap.size≤b.heap.size:=f.out.below.size
  have V:=q.out.trans (F.toBelow (s:=w.heap.size) (fun k e=>by
   rcases e with e | e | e
   ·rw [e];exact f.out.ch
   ·rw [e];exact R
   ·cases e) q.out.size)
  have N:=Lib.hid (mi 0 b.heap.size v5 _ w5 t);have O:=Lib.hid H;have M:=Lib.hid Y;have y:=Lib.hid V;have b1:=Lib.hid t;clear Y t H F V B;go_wp2_with fail
  refine N.out.mono ?_;rintro e w6 ⟨rfl,G⟩;have z:=Lib.hid G;clear G;go_wp2_with fail
  go_ret2
  have Q:∀g,v5.ownBlock=some g→S.heap.size≤g:=fun g e=>(O.out g e).elim (fun e=>by cases e) id;refine ⟨_,_,rfl,M.out.chg z.out (fun e=>?_) (fun e=>?_),f.out.sb,f.out.ch,y.out.trans (z.out.toBelow (fun k e=>Nat.le_trans q.out.size (Q k e)) y.out.size)⟩
  ·have:=Q _ e;have:=A.out;have:=p;omega
  ·have:=Q _ e;have:=r.out;have:=p;omega
 ·
  obtain ⟨b,D⟩:∃W:World,(w1.alloc (.chan 3 #[] false 0 0 false)).alloc (.cells #[.pointer (some ⟨d,0,none⟩),.pointer (some ⟨pb,0,none⟩),.slice none 0 0,.chan (some w1.heap.size),.bool (c.nets.any (iZ h)),.bool false,.bool false,.bool false,.pointer none] 130)=W:=⟨_,rfl⟩;rw [D] at f ⊢;have a:=f.out.below;have T:=heap_alloc_new b (.cells #[.pointer none,.slice none 0 0] 133);have v:Below b.heap.size b (b.alloc (.cells #[.pointer none,.slice none 0 0] 133)):=(Below.refl _ _).alloc (Nat.le_refl _) _;obtain ⟨C,P⟩:∃W:World,b.alloc (.cells #[.pointer none,.slice none 0 0] 133)=W:=⟨_,rfl⟩;rw [P] at T v;have y3:C.cell? ⟨d,0,none⟩=some (.string c.host):=((a.trans (v.mono a.size)).cell (by exact b0)).trans y0;have s3:=f.out.ses.chg (aH.below v:aH (fun _=>False) b C) (fun e=>e) (fun e=>e);have l1:=ah f.out.ses.blk;have l2:_ < b.heap.size:=ah f.out.ses.chan.choose_spec.choose_spec;have HT:=Lib.hid (s3.tell (by simp) ([50,50,48,32]++cQ c) (by rw [List.length_append];simp;omega));have K:Hid (jE 0 C b.heap.size (.slice none 0 0) []):=Lib.hid ⟨⟨none,.inl rfl,T⟩,⟨rfl,.inl ⟨rfl,rfl⟩⟩,(by intro e;cases e)⟩;have L:=Lib.hid (a.trans (v.mono a.size));have p:b.heap.size≤C.heap.size:=v.size;have A:=Lib.hid l1;have r:=Lib.hid l2;clear a T v s3 l1 l2 D;go_wp2_with fail
  rw [J.out];refine HT.out.mono ?_;rintro e S ⟨rfl,X,m⟩;have U:jE 0 S b.heap.size (.slice none 0 0) []:=j6 K.out (aH.same m) (fun e=>by have:=r.out;omega) (by intro g e;cases e);have B:=Lib.hid (rk X U (by have:=A.out;omega) (by have:=r.out;omega) (by intro e;cases e) (by intro l Z;simp at Z;rw [Z];simp;omega) (by simp;omega));have q:=Lib.hid (L.out.trans (m.below f.out.ch));have b4:S.heap.size=C.heap.size:=m.1;clear X m U;go_wp2_with fail
  refine B.out.mono ?_;rintro e w5 ⟨rfl,v5,Y,t,H,F⟩;have R:w.heap.size≤b.heap.size:=f.out.below.size
  have V:=q.out.trans (F.toBelow (s:=w.heap.size) (fun k e=>by
   rcases e with e | e | e
   ·rw [e];exact f.out.ch
   ·rw [e];exact R
   ·cases e) q.out.size)
  have N:=Lib.hid (mi 0 b.heap.size v5 _ w5 t);have O:=Lib.hid H;have M:=Lib.hid Y;have y:=Lib.hid V;have b1:=Lib.hid t;clear Y t H F V B;go_wp2_with fail
  refine N.out.mono ?_;rintro e w6 ⟨rfl,G⟩;have z:=Lib.hid G;clear G;go_wp2_with fail
  go_ret2
  have Q:∀g,v5.ownBlock=some g→S.heap.size≤g:=fun g e=>(O.out g e).elim (fun e=>by cases e) id;refine ⟨_,_,rfl,M.out.chg z.out (fun e=>?_) (fun e=>?_),f.out.sb,f.out.ch,y.out.trans (z.out.toBelow (fun k e=>Nat.le_trans q.out.size (Q k e)) y.out.size)⟩
  ·have:=Q _ e;have:=A.out;have:=p;omega
  ·have:=Q _ e;have:=r.out;have:=p;omega
end Go.Proofs.YtofpegbpgkkgkaaGreatDoor
