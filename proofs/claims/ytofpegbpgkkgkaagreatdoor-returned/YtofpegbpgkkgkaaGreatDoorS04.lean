import Derived.Test.YtofpegbpgkkgkaaGreatDoorS03
import Derived.Defers
namespace Go.Proofs.YtofpegbpgkkgkaaGreatDoor
set_option maxHeartbeats 8000000
set_option maxRecDepth 1000000
open Go.Conc Go.RowKit
theorem IG (sb d s r:Nat) (g:Bool) (a:Array Value) (l:List UInt8) (w:World) (m:w.cell? ⟨sb,3,none⟩=some (.chan (some d))) (h:w.heap[d]? =some (.chan 3 a false s r g)) (b:a.size < 3) (o:l.length≤1048576):
  Calls Tryz.prog 62 #[.pointer (some ⟨sb,0,none⟩),.string (bs l)] w fun e j=>e= .returned (.tuple #[])∧w.setChan d 3 (a.push (.string (bs (l++[13,10])))) false (s+1) r g=j:=by
 have p:=aG l;have i:¬9223372036854775807 < l.length+2:=by omega
 refine calls_of_loneTo fun k=>?_
 have e:Frame.enter Tryz.prog 62 #[.pointer (some ⟨sb,0,none⟩),.string (bs l)] .normal=(base 62).at ⟨#[.pointer (some ⟨sb,0,none⟩),.string (bs l),undef,undef,undef,undef,undef,undef,undef,undef],[]⟩ [.code (Tryz.f62.body.getD .skip)]:=by
  simp [Frame.enter,Frame.at,Tryz.func62,base,Tryz.f62]
 rw [e];refine LoneTo.goes (n:=7) ?_;simp only [Tryz.f62,Option.getD_some]
 s_reg
 s_op
 s_op
 s_op
 s_op
 s_op
 s_op
 s_stop
 have f:(bs l++(⟨#[13,10]⟩:ByteArray))=bs (l++[13,10]):=(cE l [13,10]).symm;refine LoneTo.step (step_lone_send_room (c:=d) (cap:=3) (buf:=a) (s:=s) (r:=r) (tm:=g) (v:= .string (bs (l++[13,10]))) (stepG_comm (cases:=#[scase d (.string (bs (l++[13,10]))) (.tuple #[])]) (blocking:=true) (shape:= .send) (w':=w) rfl rfl (by decide) (by simp [execOp,scase,Act.eval,f])) h b) ?_;rw [Frame.finish_at]
 walk_nrm
 refine LoneTo.goes (n:=2) ?_
 s_c stepG_region_end
 s_c stepG_end
 s_stop
 refine LoneTo.done ⟨.returned (.tuple #[]),_,rfl,⟨rfl,rfl⟩,rfl,rfl,rfl,rfl,_,Tryz.func62,by simp [results,Tryz.f62,Frame.at]⟩
open Go.RowKit
theorem Iv (sb:Nat) (a:Value) (u:FrameMode) (w:World) (h:w.cell? ⟨sb,7,none⟩=some a) (f:w.frozen? ⟨sb,7,none⟩=false):
  CallsD Tryz.prog 199 #[.pointer (some ⟨sb,0,none⟩)] u w fun e u' b=>u'=u∧(e= .returned (.tuple #[])∧b=w.setCell ⟨sb,7,none⟩ (.bool true)):=by
 go_enter_d Tryz.func199,Tryz.ntmps199
 go_wp2_with fail
 go_end0
 exact ⟨rfl,rfl⟩
theorem oa (sb:Nat) (a:Value) (u:FrameMode) (w:World) (h:w.cell? ⟨sb,8,none⟩=some a) (f:w.frozen? ⟨sb,8,none⟩=false):
  CallsD Tryz.prog 194 #[.pointer (some ⟨sb,0,none⟩)] u w fun e u' b=>u'=u∧(e= .returned (.tuple #[])∧b=w.setCell ⟨sb,8,none⟩ (.pointer none)):=by
 go_enter_d Tryz.func194,Tryz.ntmps194
 go_wp2_with fail
 go_end0
 exact ⟨rfl,rfl⟩
structure bT (w:World) (sb ch:Nat) (C:Array Value) (ls:List (List UInt8)):Prop where
 blk:w.heap[sb]? =some (.cells C 130 (0,0))
 size:C.size=9
 told:C[3]? =some (.chan (some ch))
 chan:∃s r,w.heap[ch]? =some (.chan 3 (ls.map fun l=>Value.string (bs l)).toArray false s r false)
theorem bT.cell {w:World} {sb a:Nat} {C:Array Value} {b:List (List UInt8)} (h:bT w sb a C b) (j:Nat):w.cell? ⟨sb,j,none⟩=C[j]? :=by rw [Lib.cell_of_heap h.blk]
theorem bT.frozen {w:World} {sb a:Nat} {C:Array Value} {b:List (List UInt8)} (h:bT w sb a C b) (j:Nat):w.frozen? ⟨sb,j,none⟩=false:=Lib.frozen_of_heap h.blk j
theorem bT.ne {w:World} {sb a:Nat} {C:Array Value} {c:List (List UInt8)} (h:bT w sb a C c):sb≠a:=fun e=>by
 obtain ⟨s,r,b⟩:=h.chan;have:=h.blk;rw [e,b] at this;simp at this
theorem bT.set {w:World} {sb a:Nat} {C:Array Value} {b:List (List UInt8)} (h:bT w sb a C b) (j:Nat) (e:j≠3) (v:Value):bT (w.setCell ⟨sb,j,none⟩ v) sb a (C.setIfInBounds j v) b:=by
 obtain ⟨s,r,d⟩:=h.chan;have c:aL sb w (w.setCell ⟨sb,j,none⟩ v):=(aL.refl _ _).setCell _;exact ⟨heap_setCell_same w sb j _ _ v h.blk,by simp [h.size],by rw [Array.getElem?_setIfInBounds_ne e];exact h.told,s,r,(c.2 a (Ne.symm h.ne)).trans d⟩
theorem bT.tell {w:World} {sb a:Nat} {C:Array Value} {b:List (List UInt8)} (h:bT w sb a C b) (j:b.length < 3) (l:List UInt8) (m:l.length≤1048576):
  Calls Tryz.prog 62 #[.pointer (some ⟨sb,0,none⟩),.string (bs l)] w fun e d=>e= .returned (.tuple #[])∧bT d sb a C (b++[l++[13,10]])∧aL a w d:=by
 obtain ⟨s,r,g⟩:=h.chan;refine (IG sb a s r false _ l w ((h.cell 3).trans h.told) g (by simpa using j) m).mono ?_;rintro e d ⟨rfl,rfl⟩;have c:a < w.heap.size:=(Array.getElem?_eq_some_iff.1 g).1;have f:aL a w (w.setChan a 3 ((b.map fun l=>Value.string (bs l)).toArray.push (.string (bs (l++[13,10])))) false (s+1) r false):=⟨by simp [World.setChan],fun k i=>by simp [World.setChan,Array.getElem?_setIfInBounds_ne (Ne.symm i)],⟨rfl,rfl,rfl⟩⟩
 exact ⟨rfl,⟨(f.2 sb h.ne).trans h.blk,h.size,h.told,s+1,r,by rw [Conc.heap_setChan w a 3 _ false (s+1) r false c];simp⟩,f⟩
theorem Iq (sb a:Nat) (C:Array Value) (w:World) (h:bT w sb a C []):
  Calls Tryz.prog 142 #[.pointer (some ⟨sb,0,none⟩)] w fun e g=>e= .returned (.tuple #[])∧bT g sb a (C.setIfInBounds 7 (.bool true)) [[50,50,49,32,98,121,101,13,10]]∧aH (fun k=>k=sb∨k=a) w g:=by
 have i:=Lib.hid (h.tell (by simp) [50,50,49,32,98,121,101] (by decide));have m:=h.size;clear h;go_enter_defers Tryz.func142,Tryz.ntmps142
 go_wp2_with fail
 refine i.out.mono ?_;rintro e n ⟨rfl,b,c⟩;obtain ⟨d,j⟩:∃d,C[7]? =some d:=⟨_,Array.getElem?_eq_getElem (by omega)⟩;go_wp2_with fail
 refine leaves_cons (f:=199) (args:=#[.pointer (some ⟨sb,0,none⟩)]) (by simp) (by simp [go_sem]) ?_;refine (Iv sb d .returning _ ((b.cell 7).trans j) (b.frozen 7)).mono ?_;rintro e u' l ⟨rfl,rfl,rfl⟩;exact ⟨_,results_none rfl _ _ _,rfl,b.set 7 (by decide) _,((aH.same c).mono (fun _ _ e=> .inr e)).trans (aH.same ((aL.refl _ _).setCell _)) (fun _ _ e=> .inl e)⟩
theorem aL.cell {b:Nat} {w d:World} (h:aL b w d) {a:Addr} (c:a.block≠b):d.cell? a=w.cell? a:=World.cell?_of_block (h.2 a.block c)
theorem FM (sb i:Nat) (C:Array Value) (w:World) (h:bT w sb i C []):
  Calls Tryz.prog 143 #[.pointer (some ⟨sb,0,none⟩)] w fun e d=>e= .returned (.tuple #[])∧bT d sb i (C.setIfInBounds 8 (.pointer none)) [[50,53,48,32,111,107,13,10]]∧(∀k,k≠sb→k≠i→d.heap[k]? =w.heap[k]?)∧dU w d∧d.heap.size=w.heap.size:=by
 have n:=Lib.hid (h.tell (by simp) [50,53,48,32,111,107] (by decide));have q:=h.size;clear h;go_enter_defers Tryz.func143,Tryz.ntmps143
 go_wp2_with fail
 refine n.out.mono ?_;rintro e m ⟨rfl,j,c⟩;obtain ⟨l,o⟩:∃l,C[8]? =some l:=⟨_,Array.getElem?_eq_getElem (by omega)⟩;have g:aL sb m (m.setCell ⟨sb,8,none⟩ (.pointer none)):=(aL.refl _ _).setCell _;go_wp2_with fail
 refine leaves_cons (f:=194) (args:=#[.pointer (some ⟨sb,0,none⟩)]) (by simp) (by simp [go_sem]) ?_;refine (oa sb l .returning _ ((j.cell 8).trans o) (j.frozen 8)).mono ?_;rintro e u' p ⟨rfl,rfl,rfl⟩;exact ⟨_,results_none rfl _ _ _,rfl,j.set 8 (by decide) _,fun k a b=>(g.2 k a).trans (c.2 k b),c.3.trans g.3,g.1.trans c.1⟩
theorem E0 (sb o l:Nat) (C:Array Value) (c:List UInt8) (w:World) (h:bT w sb o C []) (x:C[0]? =some (.pointer (some ⟨l,0,none⟩))) (y:w.cell? ⟨l,0,none⟩=some (.string (bs c))) (q:l≠sb) (H:c.length≤255):
  Calls Tryz.prog 144 #[.pointer (some ⟨sb,0,none⟩)] w fun e m=>e= .returned (.tuple #[])∧bT m sb o ((C.setIfInBounds 5 (.bool true)).setIfInBounds 8 (.pointer none)) [[50,53,48,32]++c++[13,10]]∧(∀k,k≠sb→k≠o→m.heap[k]? =w.heap[k]?)∧dU w m∧m.heap.size=w.heap.size:=by
 have I:=h.size;obtain ⟨J,r⟩:∃i,C[5]? =some i:=⟨_,Array.getElem?_eq_getElem (by omega)⟩;have F:=(h.cell 5).trans r;have G:=h.frozen 5;have E:=(h.cell 0).trans x;have j:aL sb w (w.setCell ⟨sb,5,none⟩ (.bool true)):=(aL.refl _ _).setCell _;have z:(w.setCell ⟨sb,5,none⟩ (.bool true)).cell? ⟨l,0,none⟩=some (.string (bs c)):=(j.cell q).trans y;have s:=h.set 5 (by decide) (.bool true);have v:=Lib.hid (s.tell (by simp) ([50,53,48,32]++c) (by rw [List.length_append];simp;omega));have d:(⟨#[50,53,48,32]⟩:ByteArray)++bs c=bs ([50,53,48,32]++c):=cE [50,53,48,32] c;have u:=Lib.hid d;have A:=aG c;clear h s d;go_enter_defers Tryz.func144,Tryz.ntmps144
 go_wp2_with fail
 rw [u.out];refine v.out.mono ?_;rintro e t ⟨rfl,p,g⟩;obtain ⟨i,B⟩:∃i,(C.setIfInBounds 5 (.bool true))[8]? =some i:=⟨_,Array.getElem?_eq_getElem (by simp;omega)⟩;have n:aL sb t (t.setCell ⟨sb,8,none⟩ (.pointer none)):=(aL.refl _ _).setCell _;go_wp2_with fail
 refine leaves_cons (f:=194) (args:=#[.pointer (some ⟨sb,0,none⟩)]) (by simp) (by simp [go_sem]) ?_;refine (oa sb i .returning _ ((p.cell 8).trans B) (p.frozen 8)).mono ?_;rintro e u' D ⟨rfl,rfl,rfl⟩;exact ⟨_,results_none rfl _ _ _,rfl,p.set 8 (by decide) _,fun k a b=>(n.2 k a).trans ((g.2 k b).trans (j.2 k a)),(j.3.trans g.3).trans n.3,n.1.trans (g.1.trans j.1)⟩
theorem oV (w:World):Calls Tryz.prog 198 #[.pointer none] w fun e a=>e= .returned (.bool false)∧w=a:=by
 go_enter Tryz.func198,Tryz.ntmps198;go_wp2_with fail
 go_ret;exact ⟨rfl,rfl⟩
theorem pO (b n c:Nat) (a:Option Addr) (w:World) (h:w.cell? ⟨b,1,none⟩=some (.slice a n c)):Calls Tryz.prog 198 #[.pointer (some ⟨b,0,none⟩)] w fun e d=>e= .returned (.bool (decide (0 < n)))∧w=d:=by
 go_enter Tryz.func198,Tryz.ntmps198;go_wp2_with fail
 go_ret;exact ⟨rfl,rfl⟩
theorem yY (w:World):Calls Tryz.prog 100 #[.pointer none] w fun e a=>e= .returned (.bool false)∧w=a:=by
 go_enter Tryz.func100,Tryz.ntmps100;go_wp2_with fail
 go_ret;exact ⟨rfl,rfl⟩
theorem CL (a:Nat) (w:World) (h:w.cell? ⟨a,2,none⟩=some (.pointer none)):Calls Tryz.prog 100 #[.pointer (some ⟨a,0,none⟩)] w fun e b=>e= .returned (.bool false)∧w=b:=by
 go_enter Tryz.func100,Tryz.ntmps100;go_wp2_with fail
 go_ret;exact ⟨rfl,rfl⟩
theorem AL (a b:Nat) (w:World) (h:w.cell? ⟨a,2,none⟩=some (.pointer (some ⟨b,0,none⟩))):Calls Tryz.prog 100 #[.pointer (some ⟨a,0,none⟩)] w fun e c=>e= .returned (.bool true)∧w=c:=by
 go_enter Tryz.func100,Tryz.ntmps100;go_wp2_with fail
 go_ret;exact ⟨rfl,rfl⟩
theorem bT.below {w e:World} {sb a:Nat} {C:Array Value} {d:List (List UInt8)} (h:bT w sb a C d) (b:Below w.heap.size w e):bT e sb a C d:=by
 obtain ⟨s,r,c⟩:=h.chan;exact ⟨(b.block sb (Array.getElem?_eq_some_iff.1 h.blk).1).trans h.blk,h.size,h.told,s,r,(b.block a (Array.getElem?_eq_some_iff.1 c).1).trans c⟩
theorem bT.same {w e:World} {sb a b:Nat} {C:Array Value} {d:List (List UInt8)} (h:bT w sb a C d) (c:aL b w e) (f:sb≠b) (g:a≠b):bT e sb a C d:=by
 obtain ⟨s,r,i⟩:=h.chan;exact ⟨(c.2 sb f).trans h.blk,h.size,h.told,s,r,(c.2 a g).trans i⟩
theorem wz (sb p a:Nat) (C:Array Value) (F G K:Value) (w:World) (h:bT w sb p C []) (P:C[8]? =some (.pointer (some ⟨a,0,none⟩))) (j:w.heap[a]? =some (.cells #[F,G,K] 216 (0,0))):
  Calls Tryz.prog 149 #[.pointer (some ⟨sb,0,none⟩)] w fun e m=>e= .returned (.tuple #[])∧bT m sb p C [[51,53,52,32,103,111,13,10]]∧m.heap[a]? =some (.cells #[F,G,.pointer (some ⟨w.heap.size,0,none⟩)] 216 (0,0))∧m.heap[w.heap.size]? =some (.cells #[.slice none 0 0,.bool false,.bool false] 253 (0,0))∧(∀k,k < w.heap.size→k≠a→k≠p→m.heap[k]? =w.heap[k]?)∧dU w m∧w.heap.size≤m.heap.size:=by
 have S:=(h.cell 8).trans P;have D:a < w.heap.size:=(Array.getElem?_eq_some_iff.1 j).1;have R:∀o:Obj,(w.alloc o).cell? ⟨a,2,none⟩=some K:=fun o=>by rw [Lib.cell_of_heap ((((Below.refl w.heap.size w).alloc (Nat.le_refl _) o).block a D).trans j)];rfl
 have g2:∀o:Obj,(w.alloc o).frozen? ⟨a,2,none⟩=false:=fun o=>Lib.frozen_of_heap ((((Below.refl w.heap.size w).alloc (Nat.le_refl _) o).block a D).trans j) 2;have E:sb≠a:=fun e=>by have:=h.blk;rw [e,j] at this;simp at this
 have q:p≠a:=fun e=>by obtain ⟨s,r,u⟩:=h.chan;rw [e,j] at u;simp at u
 have l:aL a w (w.setCell ⟨a,2,none⟩ (.pointer (some ⟨w.heap.size,0,none⟩))):=(aL.refl _ _).setCell _;have B:=heap_setCell_same w a 2 _ _ (.pointer (some ⟨w.heap.size,0,none⟩)) j;obtain ⟨g,i⟩:∃g:World,w.setCell ⟨a,2,none⟩ (.pointer (some ⟨w.heap.size,0,none⟩))=g:=⟨_,rfl⟩;rw [i] at l B;obtain ⟨n,d⟩:∃n:World,g.alloc (.cells #[.slice none 0 0,.bool false,.bool false] 253)=n:=⟨_,rfl⟩;have t:Below g.heap.size g n:=by rw [←d];exact (Below.refl _ _).alloc (Nat.le_refl _) _
 have I:n.heap[w.heap.size]? =some (.cells #[.slice none 0 0,.bool false,.bool false] 253 (0,0)):=by rw [←d,←l.1];exact heap_alloc_new g _
 have J:n.heap[a]? =some (.cells #[F,G,.pointer (some ⟨w.heap.size,0,none⟩)] 216 (0,0)):=(t.block a (by rw [l.1];exact D)).trans B;have H:=(h.same l E q).below t;have L:=Lib.hid (H.tell (by simp) [51,53,52,32,103,111] (by decide));have A:p≠w.heap.size:=by obtain ⟨s,r,u⟩:=h.chan;have:=(Array.getElem?_eq_some_iff.1 u).1;omega
 have f:=Lib.hid l;have b:=Lib.hid t;have v:=Lib.hid J;have z:=Lib.hid I;have x:=Lib.hid i;have y:=Lib.hid d;clear h H B t I i d l J j;go_enter Tryz.func149,Tryz.ntmps149;go_wp2_with fail
 rw [x.out,y.out];refine L.out.mono ?_;rintro e U ⟨rfl,N,c⟩;go_wp2_with fail
 refine bodyPost_end (results_none rfl _ _ _) rfl ?_;have Q:g.heap.size=w.heap.size:=f.out.1;refine ⟨rfl,N,(c.2 a (Ne.symm q)).trans v.out,(c.2 _ (Ne.symm A)).trans z.out,fun k T M O=>(c.2 k O).trans ((b.out.block k (by omega)).trans (f.out.2 k M)),(f.out.3.trans ⟨b.out.1,b.out.2,b.out.3⟩).trans c.3,?_⟩;rw [c.1];have:=b.out.size;omega
theorem Dc {P:Program} {t e:TypeId} {z:Value} {d a:Nat} (k:P.underlying t=some (.slice e)) (b:(P.info? e).map (fun i=>(i.zero,i.size,i.bytes))=some (some z,d,a)) (n:Nat) (g:a * n≤281474976710656) (m:n≤140737488351232) (w:World):
  (Instr.makeSlice t (.int .i64 (n:Int)) (.int .i64 (n:Int))).run P w= .ok (.slice (some ⟨w.heap.size,0,none⟩) n n) (w.alloc (.cells (madeCells z.cells (n * d)) e)):=by
 obtain ⟨i,h,l,j,c⟩:=info_parts b
 have:=run_make (P:=P) w t e i z k h l .i64 .i64 (n:Int) (n:Int) (by omega) (Int.le_refl _) (by
   have f:((a:Int) * (n:Int))=((a * n:Nat):Int):=by rw [Int.natCast_mul]
   rw [c,f]
   generalize a * n=q at g
   omega) (by omega)
 rw [show ((n:Int)).toNat=n by omega,j] at this
 exact this
theorem pA:∀(j n:Nat),az (j+1) n=UInt8.ofNat (n / 256 ^ j)::az j n
 | 0,n=>by simp [az]
 | j+1,n=>by
  rw [az,pA j,az,Nat.div_div_eq_div_mul,←Nat.pow_succ'];rfl
def sO (w:World) (b m j n:Nat):Prop:=∃A:Array Value,w.heap[b]? =some (.cells A 5 (0,0))∧A.toList=List.replicate (m - j) (.int .u8 0)++Lib.byteCells (az j n)
theorem sO.size {m j n:Nat} {A:Array Value} (a:j≤m) (h:A.toList=List.replicate (m - j) (.int .u8 0)++Lib.byteCells (az j n)):A.size=m:=by
 have:=congrArg List.length h;rw [List.length_append,List.length_replicate,Lib.byteCells_length,bf,Array.length_toList] at this;omega
theorem sO.set {w:World} {b m j n N I:Nat} (h:sO w b m j n) (k:j < m) (c:I=m - (j+1)) (d:N=n / 256 ^ j):sO (w.setCell ⟨b,I,none⟩ (.int .u8 ((N:Int) % 256))) b m (j+1) n:=by
 have a:((N:Int) % 256)=(n:Int) / 256 ^ j % 256:=by rw [d];simp
 rw [a,c];clear a d c;obtain ⟨A,f,g⟩:=h;refine ⟨A.setIfInBounds (m - (j+1)) (.int .u8 ((n:Int) / 256 ^ j % 256)),heap_setCell_same w b _ A _ _ f,?_⟩
 have i:((n:Int) / 256 ^ j % 256)=((UInt8.ofNat (n / 256 ^ j)).toNat:Int):=by
  rw [UInt8.toNat_ofNat',show ((n:Int) / 256 ^ j)=((n / 256 ^ j:Nat):Int) by simp]
  omega
 rw [Array.toList_setIfInBounds,g,i,pA]
 have e:List.replicate (m - j) (Value.int .u8 0)=List.replicate (m - (j+1)) (.int .u8 0)++[.int .u8 0]:=by
  rw [show m - j=(m - (j+1))+1 by omega,List.replicate_succ']
 rw [e,List.append_assoc,List.set_append_right _ _ (by simp)];simp [Lib.byteCells]
def jA (verb:Int) (greeted:Bool) (tx:Option Nat):Bool:=
 if verb=5 then (match tx with | none=>false | some n=>decide (0 < n)) && greeted
 else if verb=10 then tx.isSome && greeted
 else if verb=8∨verb=9 then greeted else true
theorem Dw (sb k:Nat) (C:Array Value) (o:List (List UInt8)) (a:Int) (g:Bool) (w:World) (h:bT w sb k C o) (l:C[5]? =some (.bool g)) (m:C[8]? =some (.pointer none)):
  Calls Tryz.prog 141 #[.pointer (some ⟨sb,0,none⟩),.int .i64 a] w fun e i=>e= .returned (.bool (jA a g none))∧w=i:=by
 have q:=(h.cell 5).trans l;have r:=(h.cell 8).trans m;have j:=Lib.hid (oV w);clear h
 by_cases c:a=5
 ·subst c;go_enter Tryz.func141,Tryz.ntmps141;go_wp2_with fail
  refine j.out.mono ?_;rintro e i ⟨rfl,rfl⟩;go_wp2_with fail
  go_ret;exact ⟨rfl,rfl⟩
 ·by_cases b:a=10
  ·subst b;go_enter Tryz.func141,Tryz.ntmps141;go_wp2_with fail
   go_ret;exact ⟨rfl,rfl⟩
  ·by_cases d:a=8
   ·subst d;go_enter Tryz.func141,Tryz.ntmps141;go_wp2_with fail
    go_ret;exact ⟨rfl,rfl⟩
   ·by_cases f:a=9
    ·subst f;go_enter Tryz.func141,Tryz.ntmps141;go_wp2_with fail
     go_ret;exact ⟨rfl,rfl⟩
    ·have s:(a == 5)=false:=by rw [beq_eq_false_iff_ne];exact c
     have p:(a == 10)=false:=by rw [beq_eq_false_iff_ne];exact b
     have t:(a == 8)=false:=by rw [beq_eq_false_iff_ne];exact d
     have u:(a == 9)=false:=by rw [beq_eq_false_iff_ne];exact f
     have n:jA a g none=true:=by unfold jA;rw [if_neg c,if_neg b,if_neg (by omega)]
     rw [n];go_enter Tryz.func141,Tryz.ntmps141;go_wp2_with fail
     go_ret;exact ⟨rfl,rfl⟩
theorem Dx (sb r k n c:Nat) (a:Option Addr) (C:Array Value) (u:List (List UInt8)) (b:Int) (g:Bool) (w:World) (h:bT w sb r C u) (s:C[5]? =some (.bool g)) (t:C[8]? =some (.pointer (some ⟨k,0,none⟩))) (q:w.cell? ⟨k,1,none⟩=some (.slice a n c)):
  Calls Tryz.prog 141 #[.pointer (some ⟨sb,0,none⟩),.int .i64 b] w fun e l=>e= .returned (.bool (jA b g (some n)))∧w=l:=by
 have x:=(h.cell 5).trans s;have y:=(h.cell 8).trans t;have i:=Lib.hid (pO k n c a w q);clear h q
 by_cases j:b=5
 ·subst j;have f:jA 5 g (some n)=(decide (0 < n) && g):=rfl;rw [f]
  by_cases p:0 < n
  ·rw [decide_eq_true p] at i ⊢;go_enter Tryz.func141,Tryz.ntmps141;go_wp2_with fail
   refine i.out.mono ?_;rintro e l ⟨rfl,rfl⟩;go_wp2_with fail
   go_ret;exact ⟨by simp,rfl⟩
  ·rw [decide_eq_false p] at i ⊢;go_enter Tryz.func141,Tryz.ntmps141;go_wp2_with fail
   refine i.out.mono ?_;rintro e l ⟨rfl,rfl⟩;go_wp2_with fail
   go_ret;exact ⟨by simp,rfl⟩
 ·by_cases d:b=10
  ·subst d;have f:jA 10 g (some n)=g:=by cases g <;> rfl
   rw [f];go_enter Tryz.func141,Tryz.ntmps141;go_wp2_with fail
   go_ret;exact ⟨rfl,rfl⟩
  ·by_cases m:b=8
   ·subst m;go_enter Tryz.func141,Tryz.ntmps141;go_wp2_with fail
    go_ret;exact ⟨rfl,rfl⟩
   ·by_cases o:b=9
    ·subst o;go_enter Tryz.func141,Tryz.ntmps141;go_wp2_with fail
     go_ret;exact ⟨rfl,rfl⟩
    ·have z:(b == 5)=false:=by rw [beq_eq_false_iff_ne];exact j
     have v:(b == 10)=false:=by rw [beq_eq_false_iff_ne];exact d
     have A:(b == 8)=false:=by rw [beq_eq_false_iff_ne];exact m
     have B:(b == 9)=false:=by rw [beq_eq_false_iff_ne];exact o
     have f:jA b g (some n)=true:=by unfold jA;rw [if_neg j,if_neg d,if_neg (by omega)]
     rw [f];go_enter Tryz.func141,Tryz.ntmps141;go_wp2_with fail
     go_ret;exact ⟨rfl,rfl⟩
end Go.Proofs.YtofpegbpgkkgkaaGreatDoor
