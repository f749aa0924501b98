import Derived.Test.YtofpegbpgkkgkaaGreatDoorS21
import Derived.Test.YtofpegbpgkkgkaaGreatDoorS23
import Derived.Test.YtofpegbpgkkgkaaGreatDoorS17
namespace Go.Proofs.YtofpegbpgkkgkaaGreatDoor
set_option maxHeartbeats 8000000
set_option maxRecDepth 1000000
open Go.RowKit
structure tA (t:mK):Prop where
 frm:t.frm=[]∨dH t.frm=true
 tos:∀x∈t.tos,dH x=true
 one:t.tos.Nodup
 most:t.tos.length≤10
 body:∀b,t.body=some b→1≤t.tos.length∧b.text.length≤1102
structure oJ (S:bp) (recs:List UInt8):Prop where
 time:S.time≤1000000000
 len:S.items.length+1≤4294967295
 recs:recs.length≤1073741824
theorem mY {l:List UInt8} (h:dH l=true):l.length≤61:=by
 unfold dH at h;rw [Bool.and_eq_true,beq_iff_eq] at h;have:=xv l;rw [←h.2];unfold jb;simp only [List.length_append,List.length_cons];omega
theorem FL {a:List (List UInt8)} (h:1≤a.length) (i:a.length≤10) (l:∀x∈a,dH x=true) (m:a.Nodup):iH a=true:=by
 unfold iH;rw [decide_eq_true h,decide_eq_true i];simp only [Bool.true_and,List.all_eq_true,List.mem_range];intro k f;have e:∀j (d:j < a.length),a.getD j []=a[j]:=fun j d=>by rw [List.getD_eq_getElem?_getD,List.getElem?_eq_getElem d];rfl
 unfold oG yW;rw [Bool.and_eq_true];refine ⟨by rw [e k f];exact l _ (List.getElem_mem f),?_⟩
 simp only [List.all_eq_true,List.mem_range,Bool.not_eq_true',beq_eq_false_iff_ne];intro j d;rw [e j (by omega),e k f];intro g;have:=(List.nodup_iff_pairwise_ne.1 m);rw [List.pairwise_iff_getElem] at this;exact this j k (by omega) f d g
section
variable {S:bp} {recs:List UInt8} {t:mK} {b:dW}
theorem td (d:oJ S recs) (a:tA t) (f:t.body=some b):dQ (eJ S t.frm t.tos b.text):=by
 have g:t.frm.length≤255:=by
  rcases a.frm with e | e
  ·rw [e];simp
  ·have:=mY e;omega
 have i:=a.most;have j:=(a.body b f).2;have k:=d.time;exact ⟨d.len,by show S.time≤_;omega,g,by show t.tos.length≤_;omega,fun x h=>by have:=mY (a.tos x h);omega,by show b.text.length≤_;omega⟩
theorem Bn (j:oJ S recs) (a:tA t) (i:t.body=some b) (p:b.text.length≤1000):bP (k9 (eJ S t.frm t.tos b.text))=some (eJ S t.frm t.tos b.text):=by
 have u:=td j a i;obtain ⟨y,z,B,C,v,D⟩:=u;have g:=a.body b i;have d:tu (eJ S t.frm t.tos b.text):=⟨by omega,by omega,by omega,by omega,fun x r=>by have:=v x r;omega,by show b.text.length < _;omega⟩
 have f:dr (eJ S t.frm t.tos b.text)=true:=by
  unfold dr;have k:decide ((eJ S t.frm t.tos b.text).time≤1000000000)=true:=decide_eq_true j.time
  have m:((eJ S t.frm t.tos b.text).frm.isEmpty || dH (eJ S t.frm t.tos b.text).frm)=true:=by
   show (t.frm.isEmpty || dH t.frm)=true
   rcases a.frm with e | e
   ·rw [e];rfl
   ·rw [e,Bool.or_true]
  have n:iH (eJ S t.frm t.tos b.text).tos=true:=FL g.1 a.most a.tos a.one;have o:decide ((eJ S t.frm t.tos b.text).body.length≤1000)=true:=decide_eq_true p;rw [k,m,n,o];rfl
 obtain ⟨l,h⟩:∃l,k9 (eJ S t.frm t.tos b.text)=77::l:=⟨_,rfl⟩;rw [h];unfold bP;simp only [if_true];rw [xV d h];simp [f]
end
def kz (c:bX) (s:bG) (S:bp) (recs:List UInt8) (t:mK) (b:dW):bG×bp×List UInt8×List (List UInt8):=
 if b.bad then ({s with tx:=none},S,recs,[zm])
 else if c.size < (b.text.length:Int) then ({s with tx:=none},S,recs,[uw])
 else if jt c recs (eJ S t.frm t.tos b.text) then ({s with tx:=none},S.plus (eJ S t.frm t.tos b.text),recs++bJ (k9 (eJ S t.frm t.tos b.text)),[[50,53,48,32,107,101,112,116,32]++Lib.itoa ((S.items.length:Int)+1)++[13,10]])
 else ({s with tx:=none},S,recs,[CR])
def dn (c:bX) (s:bG) (S:bp) (recs:List UInt8) (t:mK) (b:dW) (text:List UInt8) (bad:Bool):bG×bp×List UInt8×List (List UInt8):=
 if text=[46] then kz c s S recs t b else ({s with tx:=some {t with body:=some (b.add text bad c.size)}},S,recs,[])
section
variable {A:Nat→Prop} {pp pb mb sb ch:Nat} {vw:Value} {q:Nat→Nat} {vr:Value} {S:bp} {recs:List UInt8} {w:World} {s:bG} {E:Nat→Prop} {c:bX}
theorem I8 [Kn] (h:cI w A pp pb sb ch vw [] s) (r:gg E w pp c) (g:fv w pb mb q vr S recs) (u:oJ S recs) {t:mK} (v:s.tx=some t) (n:tA t) {b:dW} (j:t.body=some b) (i:∀k,A k→¬an w pb mb q vr S k) (p:∀k,E k→¬an w pb mb q vr S k) (l:∀k,E k→¬A k):
  Calls Tryz.prog 139 #[.pointer (some ⟨sb,0,none⟩)] w fun e o=>e= .returned (.tuple #[])∧gp A pp pb mb sb ch vw q vr S w (kz c s S recs t b).1 (kz c s S recs t b).2.1 (kz c s S recs t b).2.2.1 (kz c s S recs t b).2.2.2 o:=by
 unfold kz
 cases d:b.bad with
 | true=>
  refine (I9 h v j d).mono ?_;intro e o f;exact ⟨f.1,gp.step g i f⟩
 | false=>
  by_cases a:c.size < (b.text.length:Int)
  ·simp only [a,if_true];refine (GH h r v j d a).mono ?_;intro e o f;exact ⟨f.1,gp.step g i f⟩
  ·simp only [a,if_false];have x:b.text.length≤1000:=by have:=(ly r.may).2.1;omega
   refine (GG h r g v j d a (td u n j) u.recs (Bn u n j x) i p l).mono ?_;rintro e o ⟨rfl,f⟩;refine ⟨rfl,?_⟩
   cases m:jt c recs (eJ S t.frm t.tos b.text) with
   | true=>rw [m] at f;exact f
   | false=>rw [m] at f;exact f
theorem E4 [Kn] (h:cI w A pp pb sb ch vw [] s) (C:gg E w pp c) (j:fv w pb mb q vr S recs) (l:oJ S recs) {t:mK} (I:s.tx=some t) (x:tA t) {b:dW} (H:t.body=some b) (r:∀k,A k→¬an w pb mb q vr S k) (u:∀k,E k→¬an w pb mb q vr S k) (f:∀k,E k→¬A k) (i:Bool):
  Calls Tryz.prog 101 #[.pointer (some ⟨sb,0,none⟩),.agg #[.string (bs [46]),.bool i]] w fun e R=>e= .returned (.tuple #[])∧gp A pp pb mb sb ch vw q vr S w (kz c s S recs t b).1 (kz c s S recs t b).2.1 (kz c s S recs t b).2.2.1 (kz c s S recs t b).2.2.2 R:=by
 obtain ⟨n,p⟩:∃n:World,w.alloc (.cells #[.string (bs [46]),.bool i] 138)=n:=⟨_,rfl⟩;have m:Below w.heap.size w n:=by rw [←p];exact (Below.refl _ _).alloc (Nat.le_refl _) _
 have z:n.heap[w.heap.size]? =some (.cells #[.string (bs [46]),.bool i] 138 (0,0)):=by rw [←p];exact heap_alloc_new w _
 have T:n.cell? ⟨w.heap.size,0,none⟩=some (.string ⟨#[46]⟩):=by rw [Lib.cell_of_heap z];rfl
 have d:∀k,an n pb mb q vr S k→an w pb mb q vr S k:=fun k l=>l.imp (fun e=>cR j.inn m e) id;have G:=Lib.hid (I8 (h.below m) (C.below m) (j.below m) l I x H (fun k a e=>r k a (d k e)) (fun k a e=>u k a (d k e)) f);have g:=Lib.hid m;have o:=Lib.hid d;clear h C j m z r u f d;go_enter Tryz.func101,Tryz.ntmps101;go_wp2_with fail
 refine G.out.mono ?_;rintro e U ⟨rfl,B⟩;have F:=Lib.hid B;clear B;go_wp2_with fail
 refine bodyPost_ret (v:= .tuple #[]) (by simp [results,Tryz.results101,go_sem]) rfl ?_;obtain ⟨D,Q,y,J,K,L,M,N,O,P⟩:=F.out;exact ⟨rfl,D,Q,y,J,K,L,fun k l=>(M k l).imp id (fun e=>Nat.le_trans g.out.size e),fun k l=>(N k l).imp (o.out k) (fun e=>Nat.le_trans g.out.size e),O,(aH.below g.out:aH _ _ _).trans P (fun k _ e=>e.imp id (o.out k))⟩
theorem E1 (h:cI w A pp pb sb ch vw [] s) (he:gg E w pp c) {t:mK} (ht:s.tx=some t) (b1:tA t) {b:dW} (hb:t.body=some b) (d:List UInt8) (i:Bool) (a9:d≠[46]) (b0:d.length≤1048576):
  Calls Tryz.prog 101 #[.pointer (some ⟨sb,0,none⟩),.agg #[.string (bs d),.bool i]] w (cP A pp pb sb ch vw w {s with tx:=some {t with body:=some (b.add d i c.size)}} []):=by
 obtain ⟨vx,h1,h2⟩:=h.ex;obtain ⟨vD,vN,vU,vW,hs,_⟩:=he.set;rw [ht] at h2;obtain ⟨K,vt,vb,rfl,ha,hT,hO,hB⟩:=h2;rw [hb] at hB;obtain ⟨l,G,rfl,V,N,U⟩:=hB;have b3:=(b1.body b hb).2;obtain ⟨f,O⟩:∃f:World,w.alloc (.cells #[.string (bs d),.bool i] 138)=f:=⟨_,rfl⟩;have H:Below w.heap.size w f:=by rw [←O];exact (Below.refl _ _).alloc (Nat.le_refl _) _
 have X0:f.heap[w.heap.size]? =some (.cells #[.string (bs d),.bool i] 138 (0,0)):=by rw [←O];exact heap_alloc_new w _
 have e0:f.cell? ⟨w.heap.size,0,none⟩=some (.string (bs d)):=by rw [Lib.cell_of_heap X0];rfl
 have e1:f.cell? ⟨w.heap.size,1,none⟩=some (.bool i):=by rw [Lib.cell_of_heap X0];rfl
 have c0:f.cell? ⟨sb,0,none⟩=some (.pointer (some ⟨pp,0,none⟩)):=(h1.below H).cell 0;have c8:f.cell? ⟨sb,8,none⟩=some (.pointer (some ⟨K,0,none⟩)):=(h1.below H).cell 8;have t2:f.cell? ⟨K,2,none⟩=some (.pointer (some ⟨l,0,none⟩)):=by rw [Lib.cell_of_heap (ae H hT.blk)];rfl
 have y5:f.cell? ⟨pp,5,none⟩=some (.int .i64 c.size):=(H.cell (by exact he.lt _ he.epp)).trans ((hs.cell 5 (by decide)).trans rfl);have HH:=Lib.hid h;have a8:((bs d).toList == [46])=false:=by rw [beq_eq_false_iff_ne,ByteArray.toList_eq,aI];exact a9
 have Q:Hid (∀W:World,Below f.heap.size f W→Calls Tryz.prog 140 #[.pointer (some ⟨l,0,none⟩),.agg #[.string (bs d),.bool i],.int .i64 c.size] W fun e L=>e= .returned (.tuple #[])∧∃B,gl L l B (b.add d i c.size)∧aH (fun k=>k=l∨G.ownBlock=some k) W L∧∀k,B.ownBlock=some k→G.ownBlock=some k∨W.heap.size≤k):=Lib.hid (fun W a7=>Ah l G b d i c.size W (N.chg (A:=fun _=>False) (aH.below (H.trans (a7.mono H.size))) (fun e=>e) (fun _ _ e=>e)) (by omega) b0);have m:=Lib.hid H;have H1:=Lib.hid h1;have HT:=Lib.hid hT;have n:=Lib.hid N;have R:=Lib.hid U;have a4:=Lib.hid X0;have a3:Hid (∃D:Array Value,f.heap[pp]? =some (.cells D 88 (0,0))∧True):=Lib.hid (by obtain ⟨D,hD,_⟩:=hs.blk;exact ⟨D,ae H hD,trivial⟩);clear h h1 hT N hs he H X0 U;go_enter Tryz.func101,Tryz.ntmps101;go_wp2_with fail
 have B1:Below f.heap.size f f.drew:=(Below.refl _ _).drew;have a1:=Lib.hid (Q.out _ B1);have b2:=Lib.hid B1
 have M:Hid (∀W:World,aH (fun k=>k=l∨G.ownBlock=some k) f W→W.cell? ⟨w.heap.size,0,none⟩=some (.string (bs d))∧W.cell? ⟨w.heap.size,1,none⟩=some (.bool i)∧W.cell? ⟨sb,0,none⟩=some (.pointer (some ⟨pp,0,none⟩))∧W.cell? ⟨sb,8,none⟩=some (.pointer (some ⟨K,0,none⟩))∧W.cell? ⟨K,2,none⟩=some (.pointer (some ⟨l,0,none⟩))∧W.cell? ⟨pp,5,none⟩=some (.int .i64 c.size)):=Lib.hid (fun W hK=>by
  have P:∀{x o:Nat} {v:Value},f.cell? ⟨x,o,none⟩=some v→(∀C z,f.heap[x]? ≠some (.cells C 253 z))→(∀C z,f.heap[x]? ≠some (.cells C 5 z))→W.cell? ⟨x,o,none⟩=some v:=fun e n1 n2=>(World.cell?_of_block (hK.block _ (eI e) (fun j=>by
   rcases j with j | j
   ·subst j;exact n1 _ _ (ae m.out n.out.blk)
   ·obtain ⟨I,z,F⟩:=gB n.out.row j
    exact n2 _ _ (ae m.out F)))).trans e
  have p:∀{x:Nat} {C:Array Value} {t t':TypeId} {z:Nat×Nat},f.heap[x]? =some (.cells C t z)→t≠t'→∀C' z',f.heap[x]? ≠some (.cells C' t' z'):=fun e hn C' z' j=>by
   rw [e] at j;injection j with j;injection j with _ j _;exact hn j
  obtain ⟨D,hD,_⟩:=a3.out;have hx:=a4.out;have J:=ae m.out H1.out.blk;have a0:=ae m.out HT.out.blk
  exact ⟨P e0 (p hx (by decide)) (p hx (by decide)),P e1 (p hx (by decide)) (p hx (by decide)),P c0 (p J (by decide)) (p J (by decide)),P c8 (p J (by decide)) (p J (by decide)),P t2 (p a0 (by decide)) (p a0 (by decide)),P y5 (p hD (by decide)) (p hD (by decide))⟩)
 have C0:Hid (aH (fun k=>k=l∨G.ownBlock=some k) f f):=Lib.hid (aH.refl _ _);have C1:Hid (aH (fun k=>k=l∨G.ownBlock=some k) f f.drew):=Lib.hid (aH.below B1);clear B1 a8 O
 go_region_held3 (fun L=>L.cell? ⟨w.heap.size,0,none⟩=some (.string (bs d))∧L.cell? ⟨w.heap.size,1,none⟩=some (.bool i)∧L.cell? ⟨sb,0,none⟩=some (.pointer (some ⟨pp,0,none⟩))∧L.cell? ⟨sb,8,none⟩=some (.pointer (some ⟨K,0,none⟩))∧L.cell? ⟨K,2,none⟩=some (.pointer (some ⟨l,0,none⟩))∧L.cell? ⟨pp,5,none⟩=some (.int .i64 c.size))
  (first | exact M.out _ C5.out | exact M.out _ C1.out | exact M.out _ C0.out)
  (first
   | (go_at_call 140;refine a1.out.mono ?_;rintro e w5 ⟨rfl,B,p1,p2,p3⟩;have C5:Hid (aH (fun k=>k=l∨G.ownBlock=some k) f w5):=Lib.hid (C1.out.trans p2 (fun _ _ e=>e));have T:=Lib.hid p1;have a2:=Lib.hid p3;clear p1 p2 p3))
 go_wp2_with fail
 refine bodyPost_end (results_none rfl _ _ _) rfl ?_;have C6:aH (fun k=>k=l∨G.ownBlock=some k) w w5:=(aH.below m.out:aH _ _ _).trans C5.out (fun _ _ e=>e);have Z:∀k,(k=l∨G.ownBlock=some k)→A k:=fun k e=>e.elim (fun e=>by rw [e];exact V) (R.out k)
 have y:∀{k:Nat} {C:Array Value} {t:TypeId} {z:Nat×Nat},w.heap[k]? =some (.cells C t z)→t≠253→t≠5→¬(k=l∨G.ownBlock=some k):=fun e n1 n2 j=>by
  rcases j with j | j
  ·rw [j,n.out.blk] at e;injection e with e;injection e with _ e _;exact n1 e.symm
  ·obtain ⟨I,z,F⟩:=gB n.out.row j;rw [F] at e;injection e with e;injection e with _ e _;exact n2 e.symm
 obtain ⟨sq,r,X⟩:=H1.out.chan
 have a5:bT w5 sb ch (iq pp pb ch vw (.pointer (some ⟨K,0,none⟩)) s) []:=H1.out.chg C6 (y H1.out.blk (by decide) (by decide)) (fun e=>by
  rcases e with e | e
  ·have:=n.out.blk;rw [←e,X] at this;cases this
  ·obtain ⟨I,z,F⟩:=gB n.out.row e
   rw [X] at F;cases F)
 have a6:si w5 K vt (.pointer (some ⟨l,0,none⟩)) t.frm t.tos:=HT.out.chg C6 (y HT.out.blk (by decide) (by decide)) (fun g Y=>by
  obtain ⟨I,F⟩:=dm HT.out.row Y
  exact y F (by decide) (by decide))
 refine ⟨rfl,fun k=>A k∨B.ownBlock=some k,⟨⟨_,a5,K,vt,_,rfl,.inl ha,a6,fun g Y=> .inl (hO g Y),l,B,rfl,.inl V,T.out,fun g Y=> .inr Y⟩,.inl HH.out.asb,.inl HH.out.ach,fun k u=>?_⟩,fun _ a=> .inl a,fun k u=>?_,C6.mono (fun k _ e=>Z k e)⟩
 ·rcases u with u | u
  ·exact Nat.lt_of_lt_of_le (HH.out.lt k u) C6.size
  ·obtain ⟨I,z,F⟩:=gB T.out.row u;exact ah F
 ·rcases u with u | u
  ·exact .inl u
  ·exact (a2.out k u).imp (R.out k) (fun e=>Nat.le_trans m.out.size e)
end
open Go.Conc Go.RowKit
def D9 (f:FuncId):Frame:={base f with kind:= .deferred}
theorem DW (q:List UInt8→World→Prop) (sb i:Nat) (u:Bool) (V:Value) (W:List Frame) (R:World→Prop)
  (X:∀a l w,q a w→l.length≤1048576→a.length+l.length≤140737488355328→Calls Tryz.prog 96 #[V,.string (bs l)] w fun e j=>(∃v,e= .returned v)∧q (a++l) j∧∀o,w.heap[i]? =some o→j.heap[i]? =some o)
  (d:∀a w,q a w→w.cell? ⟨sb,3,none⟩=some (.chan (some i)))
  (p:∀a w M y s r,q a w→w.heap[i]? =some (.chan 3 M false s r u)→q a (w.setChan i 3 y false s (r+1) u)):
  ∀(g:List (List UInt8)) (a:List UInt8) (w:World) (s r:Nat) (u2 u3 u4 u5 u6 u7 u8 u9 u10 u11 u12 u13 u14 u15:Value),q a w→w.heap[i]? =some (.chan 3 (g.map fun l=>Value.string (bs l)).toArray false s r u)→(∀l∈g,l.length≤1048576)→a.length+g.flatten.length≤140737488355328→
   (∀j U T,q (a++g.flatten) j→j.heap[i]? =some (.chan 3 #[] false U T u)→R j)→
   LoneTo Tryz.prog (fun g' j=>∃e N,g'=G N W∧(e= .returned (.tuple #[])∧R j)∧N.kind= .deferred∧N.going Tryz.prog j e)
    (G ((D9 63).at ⟨#[.pointer (some ⟨sb,0,none⟩),V,u2,u3,u4,u5,u6,u7,u8,u9,u10,u11,u12,u13,u14,u15],[]⟩ [.code (gE Tryz.f63),.inLoop (gE Tryz.f63),.inBlock 0]) W) w:=by
 intro g
 induction g with
 | nil=>
  intro a w s r u2 u3 u4 u5 u6 u7 u8 u9 u10 u11 u12 u13 u14 u15 t b _ _ K;have Y:=d a w t;have F:=K w s r (by simpa using t) (by simpa using b);simp only [List.map_nil] at b;clear X d p K;refine LoneTo.goes (n:=30) ?_;simp only [gE,oX,Tryz.f63]
  s_c stepG_block
  s_c stepG_seq
  s_reg
  s_op
  s_op
  s_op
  s_op
  s_c stepG_region_end
  s_c stepG_seq
  s_reg
  s_stop
  refine LoneTo.step (step_lone_select_default (c:=i) (z:= .string ⟨#[]⟩) (stepG_comm (cases:=#[rcase i (.string ⟨#[]⟩)]) (blocking:=false) (shape:= .select) (w':=w) rfl rfl (by decide) (by simp [go_sem,rcase,Act.eval,execOp])) b) ?_;rw [Frame.finish_at]
  walk_nrm
  refine LoneTo.goes (n:=20) ?_
  s_op
  s_op
  s_c stepG_region_end
  s_c stepG_block
  s_cond false
  s_c stepG_ret'
  s_stop
  exact LoneTo.done ⟨.returned (.tuple #[]),_,rfl,⟨rfl,F⟩,rfl,rfl,rfl,_,Tryz.func63,by simp [results,Tryz.f63,Frame.at]⟩
 | cons l g ih=>
  intro a w s r u2 u3 u4 u5 u6 u7 u8 u9 u10 u11 u12 u13 u14 u15 t b Z B K;have Y:=d a w t;have S:=Z l (List.mem_cons_self ..);have C:a.length+l.length≤140737488355328:=by rw [List.flatten_cons,List.length_append] at B;omega
  have D:(a++l).length+g.flatten.length≤140737488355328:=by rw [List.flatten_cons,List.length_append] at B;rw [List.length_append];omega
  have A:=p a w _ (g.map fun l=>Value.string (bs l)).toArray s r t b;have H:((((l::g).map fun l=>Value.string (bs l)).toArray).extract 1 (((l::g).map fun l=>Value.string (bs l)).toArray).size)=(g.map fun l=>Value.string (bs l)).toArray:=by simp [List.take_of_length_le]
  have I:((((l::g).map fun l=>Value.string (bs l)).toArray).getD 0 undef)= .string (bs l):=by simp
  have m:i < w.heap.size:=(Array.getElem?_eq_some_iff.1 b).1;refine LoneTo.goes (n:=30) ?_;simp only [gE,oX,Tryz.f63]
  s_c stepG_block
  s_c stepG_seq
  s_reg
  s_op
  s_op
  s_op
  s_op
  s_c stepG_region_end
  s_c stepG_seq
  s_reg
  s_stop
  refine LoneTo.step (step_lone_select_recv_buf (c:=i) (z:= .string ⟨#[]⟩) (stepG_comm (cases:=#[rcase i (.string ⟨#[]⟩)]) (blocking:=false) (shape:= .select) (w':=w) rfl rfl (by decide) (by simp [go_sem,rcase,Act.eval,execOp])) b (by simp)) ?_;rw [H,I];rw [Frame.finish_at]
  walk_nrm
  have k:=heap_setChan w i 3 (g.map fun l=>Value.string (bs l)).toArray false s (r+1) u m;obtain ⟨L,J⟩:∃L,w.setChan i 3 (g.map fun l=>Value.string (bs l)).toArray false s (r+1) u=L:=⟨_,rfl⟩;rw [J] at A k ⊢;clear J Y b t H I m;refine LoneTo.goes (n:=30) ?_
  s_op
  s_op
  s_c stepG_region_end
  s_c stepG_block
  s_cond true
  s_c stepG_seq
  s_reg
  s_op
  s_op
  s_c stepG_region_end
  s_reg
  s_op
  s_op
  s_stop
  refine LoneTo.step (step_solo_go rfl (stepG_enter (f:=96) (args:=#[V,.string (bs l)]) (w':=L) rfl rfl (by decide) (by simp [go_sem,Act.eval,execOp]))) ?_;refine yJ (X a l L A S C) (fun _ _ h=>by obtain ⟨⟨_,h⟩,_⟩:=h;cases h) (fun _ h=>by obtain ⟨⟨_,h⟩,_⟩:=h;cases h) fun v w2 O=>?_;obtain ⟨_,P,Q⟩:=O;have E:=Q _ k;rw [Frame.finish_at]
  walk_nrm
  refine LoneTo.goes (n:=30) ?_
  s_c stepG_region_end
  s_c stepG_inBlock
  s_c stepG_inBlock
  s_c stepG_inLoop
  s_stop
  exact ih (a++l) w2 s (r+1) _ _ _ _ _ _ _ _ _ _ _ _ _ _ P E (fun x hx=>Z x (List.mem_cons_of_mem _ hx)) D (fun j U T h1 O=>K j U T (by rw [List.flatten_cons,←List.append_assoc];exact h1) O)
theorem xh (b:List UInt8→World→Prop) (sb c s r:Nat) (j:Bool) (y:Value) (i:List (List UInt8)) (a:List UInt8) (w:World) (m:List Frame)
  (D:∀a l w,b a w→l.length≤1048576→a.length+l.length≤140737488355328→Calls Tryz.prog 96 #[y,.string (bs l)] w fun e f=>(∃v,e= .returned v)∧b (a++l) f∧∀o,w.heap[c]? =some o→f.heap[c]? =some o)
  (d:∀a w,b a w→w.cell? ⟨sb,3,none⟩=some (.chan (some c)))
  (h:∀a w k g s r,b a w→w.heap[c]? =some (.chan 3 k false s r j)→b a (w.setChan c 3 g false s (r+1) j))
  (C:b a w) (t:w.heap[c]? =some (.chan 3 (i.map fun l=>Value.string (bs l)).toArray false s r j)) (E:∀l∈i,l.length≤1048576) (q:a.length+i.flatten.length≤140737488355328):
  LoneTo Tryz.prog (fun z f=>∃e p,z=G p m∧(e= .returned (.tuple #[])∧∃x u,b (a++i.flatten) f∧f.heap[c]? =some (.chan 3 #[] false x u j))∧p.kind= .deferred∧p.going Tryz.prog f e)
   (G ((D9 63).at ⟨#[.pointer (some ⟨sb,0,none⟩),y,undef,undef,undef,undef,undef,undef,undef,undef,undef,undef,undef,undef,undef,undef],[]⟩ [.code (.block 0 (.loop (gE Tryz.f63)))]) m) w:=by
 refine LoneTo.goes (n:=2) ?_
 s_c stepG_block
 s_c stepG_loop
 s_stop
 exact DW b sb c j y m _ D d h i a w s r _ _ _ _ _ _ _ _ _ _ _ _ _ _ C t E q (fun f x u A B=>⟨x,u,A,B⟩)
theorem vR (b:List UInt8→World→Prop) (sb d s r:Nat) (m:Bool) (n:Value) (k:List (List UInt8)) (a:List UInt8) (u:FrameMode) (w:World)
  (A:∀a l w,b a w→l.length≤1048576→a.length+l.length≤140737488355328→Calls Tryz.prog 96 #[n,.string (bs l)] w fun e g=>(∃v,e= .returned v)∧b (a++l) g∧∀o,w.heap[d]? =some o→g.heap[d]? =some o)
  (f:∀a w,b a w→w.cell? ⟨sb,3,none⟩=some (.chan (some d)))
  (j:∀a w p i s r,b a w→w.heap[d]? =some (.chan 3 p false s r m)→b a (w.setChan d 3 i false s (r+1) m))
  (z:b a w) (t:w.heap[d]? =some (.chan 3 (k.map fun l=>Value.string (bs l)).toArray false s r m)) (D:∀l∈k,l.length≤1048576) (q:a.length+k.flatten.length≤140737488355328):
  CallsD Tryz.prog 63 #[.pointer (some ⟨sb,0,none⟩),n] u w fun e u' g=>u'=u∧e= .returned (.tuple #[])∧∃H G,b (a++k.flatten) g∧g.heap[d]? =some (.chan 3 #[] false H G m):=by
 intro c x F;subst F
 have e:Frame.enter Tryz.prog 63 #[.pointer (some ⟨sb,0,none⟩),n] .deferred=(D9 63).at ⟨#[.pointer (some ⟨sb,0,none⟩),n,undef,undef,undef,undef,undef,undef,undef,undef,undef,undef,undef,undef,undef,undef],[]⟩ [.code (.block 0 (.loop (gE Tryz.f63)))]:=by
  simp [Frame.enter,Frame.at,Tryz.func63,D9,base,Tryz.f63,gE,oX]
 obtain ⟨_,g,E,I,y,rfl,⟨rfl,h⟩,C,B⟩:=xh b sb d s r m n k a w (c::x) A f j z t D q;rw [e];exact ⟨.returned (.tuple #[]),c.mode,g,y,⟨rfl,rfl,h⟩,E,C,B⟩
theorem Ak (a:List UInt8) (g:Bool) (m:Int) (w:World) (d:a.length≤1048576) (b:g=false→fp a) (f:w.cell? ⟨0,0,none⟩=some (.int .i64 m)):
  Calls Tryz.prog 103 #[.agg #[.string (bs a),.bool g]] w fun e t=>e= .returned (jo (bn a g))∧Below w.heap.size w t:=by
 cases g with
 | true=>exact Al a w
 | false=>
  have b:=b rfl;have e:bn a false=Ed (Lib.toUpperA (cz 32 a).1) (cz 32 a).2.1 (cz 32 a).2.2:=rfl;rw [e];unfold Ed
  by_cases h:Lib.toUpperA (cz 32 a).1=[81,85,73,84]
  ·rw [if_pos h];exact fA a m w d b f h (.inl ⟨rfl,rfl⟩)
  rw [if_neg h]
  by_cases i:Lib.toUpperA (cz 32 a).1=[78,79,79,80]
  ·rw [if_pos i];exact fA a m w d b f i (.inr (.inl ⟨rfl,rfl⟩))
  rw [if_neg i]
  by_cases j:Lib.toUpperA (cz 32 a).1=[82,83,69,84]
  ·rw [if_pos j];exact fA a m w d b f j (.inr (.inr (.inl ⟨rfl,rfl⟩)))
  rw [if_neg j]
  by_cases k:Lib.toUpperA (cz 32 a).1=[68,65,84,65]
  ·rw [if_pos k];exact fA a m w d b f k (.inr (.inr (.inr (.inl ⟨rfl,rfl⟩))))
  rw [if_neg k]
  by_cases l:Lib.toUpperA (cz 32 a).1=[72,69,76,79]
  ·rw [if_pos l];exact fA a m w d b f l (.inr (.inr (.inr (.inr (.inl ⟨rfl,rfl⟩)))))
  rw [if_neg l]
  by_cases n:Lib.toUpperA (cz 32 a).1=[69,72,76,79]
  ·rw [if_pos n];exact fA a m w d b f n (.inr (.inr (.inr (.inr (.inr (.inl ⟨rfl,rfl⟩))))))
  rw [if_neg n]
  by_cases o:Lib.toUpperA (cz 32 a).1=[65,85,84,72]
  ·rw [if_pos o];exact fA a m w d b f o (.inr (.inr (.inr (.inr (.inr (.inr (.inl ⟨rfl,rfl⟩)))))))
  rw [if_neg o]
  by_cases p:Lib.toUpperA (cz 32 a).1=[77,65,73,76]
  ·rw [if_pos p];exact fA a m w d b f p (.inr (.inr (.inr (.inr (.inr (.inr (.inr (.inl ⟨rfl,rfl⟩))))))))
  rw [if_neg p]
  by_cases r:Lib.toUpperA (cz 32 a).1=[82,67,80,84]
  ·rw [if_pos r];exact fA a m w d b f r (.inr (.inr (.inr (.inr (.inr (.inr (.inr (.inr ⟨rfl,rfl⟩))))))))
  rw [if_neg r];exact yL a m w d b f (by unfold JM;simp [h,i,j,k,l,n,o,p,r])
structure DZ (k:og):Prop where
 verb:k.verb≤10
 name:k.name=[]∨dH k.name=true
 rcpt:k.verb=10→dH k.name=true
theorem zp (v:Nat) (h:v≤9):DZ (rJ v):=⟨by show v≤10;omega,.inl rfl,fun e=>by have e:v=10:=e;omega⟩
theorem Ex (l:List UInt8):dY l=[]∨dH (dY l)=true:=by
 cases h:(jb l).2 with
 | true=>exact .inr (qI h)
 | false=>left;unfold dY;rw [h];rfl
theorem Bw (b:List UInt8) (a:Bool):DZ (bn b a):=by
 unfold bn
 cases a with
 | true=>exact zp 0 (by decide)
 | false=>
  simp only [Bool.false_eq_true,if_false];unfold Ed la mW;have d:DZ iI:=zp 1 (by decide)
  repeat' split
  all_goals first
   | exact d
   | exact zp _ (by decide)
   | skip
  ·unfold ry
   split
   ·split
    ·exact ⟨show (8:Nat)≤10 by omega,.inl rfl,fun e=>by cases e⟩
    ·exact d
   ·exact d
  ·unfold uJ;simp only
   split
   ·exact ⟨show (9:Nat)≤10 by omega,Ex _,fun e=>by cases e⟩
   ·exact d
  ·unfold Mf;simp only
   split
   ·rename_i f
    rw [Bool.and_eq_true] at f;exact ⟨Nat.le_refl 10,.inr (qI f.2),fun _=>qI f.2⟩
   ·exact d
section
variable {A:Nat→Prop} {pp pb mb sb ch:Nat} {vw:Value} {q:Nat→Nat} {vr:Value} {S:bp} {recs:List UInt8} {w:World} {s:bG} {E:Nat→Prop} {c:bX}
theorem H8 (h:cI w A pp pb sb ch vw [] s) (g:gg E w pp c) (f:∀k,E k→¬A k) (k:og) (n:k.verb≤10) (m:k.name.length≤1048576) (j:∀t,s.tx=some t→t.body=none∧t.tos.length≤10):
  Calls Tryz.prog 102 #[.pointer (some ⟨sb,0,none⟩),jo k] w (cP A pp pb sb ch vw w (bz c s k).1 (bz c s k).2):=by
 obtain ⟨v,b,d,a⟩:=k;simp only at n m;unfold jo bz;simp only
 cases e:fO s v with
 | false=>
  simp only [if_true];exact Dp h g f b a d v e
 | true=>
  simp only [Bool.true_eq_false,if_false];have l:v=0∨v=1∨v=2∨v=3∨v=4∨v=5∨v=6∨v=7∨v=8∨v=9∨v=10:=by omega
  rcases l with rfl | rfl | rfl | rfl | rfl | rfl | rfl | rfl | rfl | rfl | rfl
  ·exact mx h g f b a d rfl e (.inl ⟨rfl,rfl,rfl⟩)
  ·exact mx h g f b a d rfl e (.inr (.inl ⟨rfl,rfl,rfl⟩))
  ·exact mx h g f b a d rfl e (.inr (.inr (.inl ⟨rfl,rfl,rfl⟩)))
  ·exact mx h g f b a d rfl e (.inr (.inr (.inr (.inl ⟨rfl,rfl,rfl⟩))))
  ·exact mx h g f b a d rfl e (.inr (.inr (.inr (.inr (.inl ⟨rfl,rfl,rfl⟩)))))
  ·cases i:s.tx with
   | none=>rw [show fO s 5=false by unfold fO jA;rw [i];rfl] at e;cases e
   | some t=>exact mx h g f b a d rfl e (.inr (.inr (.inr (.inr (.inr (.inl ⟨_,i,rfl,rfl,rfl⟩))))))
  ·exact mx h g f b a d rfl e (.inr (.inr (.inr (.inr (.inr (.inr (.inl ⟨rfl,rfl,rfl⟩)))))))
  ·exact mx h g f b a d rfl e (.inr (.inr (.inr (.inr (.inr (.inr (.inr (.inl ⟨rfl,rfl,rfl⟩))))))))
  ·exact mx h g f b a d rfl e (.inr (.inr (.inr (.inr (.inr (.inr (.inr (.inr (.inl ⟨rfl,rfl,rfl⟩)))))))))
  ·exact mx h g f b a d rfl e (.inr (.inr (.inr (.inr (.inr (.inr (.inr (.inr (.inr (.inl ⟨rfl,rfl,rfl⟩))))))))))
  ·cases i:s.tx with
   | none=>rw [show fO s 10=false by unfold fO jA;rw [i];rfl] at e;cases e
   | some t=>exact mx h g f b a d rfl e (.inr (.inr (.inr (.inr (.inr (.inr (.inr (.inr (.inr (.inr ⟨_,i,(j t i).1,m,(j t i).2,rfl,rfl,rfl⟩))))))))))
theorem E2 [Kn] (h:cI w A pp pb sb ch vw [] s) (r:gg E w pp c) (f:fv w pb mb q vr S recs) (x:oJ S recs) {t:mK} (u:s.tx=some t) (j:tA t) {b:dW} (p:t.body=some b) (g:∀k,A k→¬an w pb mb q vr S k) (m:∀k,E k→¬an w pb mb q vr S k) (i:∀k,E k→¬A k) (a:List UInt8) (d:Bool) (n:a.length≤1048576):
  Calls Tryz.prog 101 #[.pointer (some ⟨sb,0,none⟩),.agg #[.string (bs a),.bool d]] w fun e v=>e= .returned (.tuple #[])∧gp A pp pb mb sb ch vw q vr S w (dn c s S recs t b a d).1 (dn c s S recs t b a d).2.1 (dn c s S recs t b a d).2.2.1 (dn c s S recs t b a d).2.2.2 v:=by
 unfold dn
 by_cases l:a=[46]
 ·subst l;simp only [if_true];exact E4 h r f x u j p g m i d
 ·simp only [l,if_false];refine (E1 h r u j p a d l n).mono ?_;intro e v o;exact ⟨o.1,gp.step f g o⟩
end
def aO (c:bX) (s:bG) (S:bp) (recs:List UInt8) (text:List UInt8) (bad:Bool):bG×bp×List UInt8×List (List UInt8):=
 match s.tx with
 | some t=>(match t.body with
  | some b=>dn c s S recs t b text bad
  | none=>((bz c s (bn text bad)).1,S,recs,(bz c s (bn text bad)).2))
 | none=>((bz c s (bn text bad)).1,S,recs,(bz c s (bn text bad)).2)
section
variable {E:Nat→Prop} {pp pb mb sb ch bl:Nat} {c:bX} {w:World} {A:Nat→Prop} {q:Nat→Nat} {vr:Value} {S:bp} {recs:List UInt8} {vw v:Value} {acc:List UInt8} {ls:List (List UInt8)} {s:bG}
theorem fG.take_d [Kn] (h:fG E pp pb mb sb ch bl c w A q vr S recs vw v acc ls s) (hl:∀l∈ls,l.length≤1048576) (u:FrameMode) (L:acc.length+ls.flatten.length≤140737488355328):
  CallsD Tryz.prog 63 #[.pointer (some ⟨sb,0,none⟩),.pointer (some ⟨bl,0,none⟩)] u w fun e u' B=>u'=u∧e= .returned (.tuple #[])∧∃d,fG E pp pb mb sb ch bl c B A q vr S recs vw d (acc++ls.flatten) [] s∧aH (fun k=>k=ch∨k=bl∨v.ownBlock=some k) w B∧(∀k,an B pb mb q vr S k→an w pb mb q vr S k)∧∀g,d.ownBlock=some g→v.ownBlock=some g∨w.heap.size≤g:=by
 obtain ⟨vx,I,hx⟩:=h.ses.ex;obtain ⟨sq,r,G⟩:=I.chan;have C:ch≠bl:=fun e=>h.ld.2.1 (by rw [←e];exact h.ses.ach)
 have P:¬(sb=ch∨sb=bl∨v.ownBlock=some sb):=fun x=>by
  rcases x with x | x | x
  ·exact I.ne x
  ·exact h.ld.2.1 (by rw [←x];exact h.ses.asb)
  ·exact (h.vd sb x).2.1 h.ses.asb
 let Bd:List UInt8→World→Prop:=fun a B=>∃d,jE 0 B bl d a∧(∀g,d.ownBlock=some g→v.ownBlock=some g∨w.heap.size≤g)∧aH (fun k=>k=ch∨k=bl∨v.ownBlock=some k) w B∧∃j y t,B.heap[ch]? =some (.chan 3 j false y t false)
 have R:=vR Bd sb ch sq r false (.pointer (some ⟨bl,0,none⟩)) ls acc u w ?_ ?_ ?_ ⟨v,h.bld,fun g e=> .inl e,aH.refl _ _,_,_,_,G⟩ G hl L
 ·refine R.mono ?_;rintro e u' B ⟨rfl,rfl,y,t,⟨d,n,p,i,_⟩,b⟩;obtain ⟨x1,x2⟩:=h.told i p n b;exact ⟨rfl,rfl,d,x1,i,x2,p⟩
 ·rintro a l W ⟨d,n,p,i,j,y,t,b⟩ _ H
  have m:d.ownBlock≠some ch:=fun e=>by
   obtain ⟨J,z,F⟩:=gB n.row e;rw [b] at F;cases F
  refine (r8 0 bl d a l W n (Nat.zero_le _) H).mono ?_;rintro e T ⟨⟨rv,rfl⟩,⟨v2,X,Y⟩,K,Z,Q⟩
  have M:aH (fun k=>k=bl∨d.ownBlock=some k) W T:=⟨Q,fun k D V=>by
   rw [Array.getElem?_eq_getElem D]
   exact K k _ (Array.getElem?_eq_getElem D) (fun e=>V (.inl e)) (fun e=>V (.inr e)),Z⟩
  refine ⟨⟨rv,rfl⟩,⟨v2,X,fun g N=>(Y g N).elim (p g) (fun e=> .inr (Nat.le_trans i.size e)),i.trans M (fun k D e=>e.elim (fun e=> .inr (.inl e)) (fun e=>(p k e).elim (fun e=> .inr (.inr e)) (fun e=>absurd D (by omega)))),j,y,t,K ch _ b C m⟩,fun o ho=>K ch o ho C m⟩
 ·rintro a W ⟨d,n,p,i,_⟩;rw [Lib.cell_of_heap (i.some_ I.blk P)];exact I.told
 ·rintro a W j f y t ⟨d,n,p,i,_⟩ b;have O:ch < W.heap.size:=ah b;have U:aL ch W (W.setChan ch 3 f false y (t+1) false):=⟨by simp [World.setChan],fun k D=>by simp [World.setChan,Array.getElem?_setIfInBounds_ne (Ne.symm D)],⟨rfl,rfl,rfl⟩⟩
  have m:d.ownBlock≠some ch:=fun e=>by
   obtain ⟨J,z,F⟩:=gB n.row e;rw [b] at F;cases F
  refine ⟨d,j6 n (aH.same U) (fun e=>C e.symm) (fun g N e=>m (by rw [←e];exact N)),p,i.trans (aH.same U) (fun _ _ e=> .inl e),f,y,t+1,Conc.heap_setChan W ch 3 f false y (t+1) false O⟩
def nK [Kn] (E A:Nat→Prop) (pp pb mb sb ch bl:Nat) (c:bX) (q:Nat→Nat) (vr:Value) (S:bp) (vw v:Value) (w:World) (s':bG) (S':bp) (recs' acc':List UInt8) (w':World):Prop:=
 ∃A' q' vr' vw' v',fG E pp pb mb sb ch bl c w' A' q' vr' S' recs' vw' v' acc' [] s'∧(∀k,ug w' pb mb bl A' q' vr' S' vw' v' k→ug w pb mb bl A q vr S vw v k∨w.heap.size≤k)∧aH (ug w pb mb bl A q vr S vw v) w w'
theorem xG [Kn] {j o p:World} {r:Nat→Prop} {n:Nat→Nat} {d u:Value} {l:bp} {b f:List UInt8} {y:bG} (h:fG E pp pb mb sb ch bl c w A q vr S recs vw v acc [] s) (m:Below w.heap.size w j)
  (x:aH (fun k=>A k∨an j pb mb q vr S k) j o) (z:∀k,r k→A k∨j.heap.size≤k) (t:∀k,an o pb mb n d l k→an j pb mb q vr S k∨j.heap.size≤k) (B:fG E pp pb mb sb ch bl c p r n d l b vw u f [] y) (C:aH (fun k=>k=ch∨k=bl∨v.ownBlock=some k) o p) (D:∀k,an p pb mb n d l k→an o pb mb n d l k) (F:∀g,u.ownBlock=some g→v.ownBlock=some g∨o.heap.size≤g):nK E A pp pb mb sb ch bl c q vr S vw v w y l b f p:=by
 have i:∀k,an j pb mb q vr S k→an w pb mb q vr S k:=fun k e=>e.imp (fun e=>cR h.bag.inn m e) id;refine ⟨r,n,d,vw,u,B,fun k a=>?_,(((aH.below m:aH (ug w pb mb bl A q vr S vw v) w j)).trans x (fun k _ e=>e.imp id (fun e=> .inl (i k e)))).trans C (fun k _ e=>?_)⟩
 ·rcases a with a | a | a | a | a
  ·exact (z k a).imp .inl (fun e=>Nat.le_trans m.size e)
  ·exact (t k (D k a)).imp (fun e=> .inr (.inl (i k e))) (fun e=>Nat.le_trans m.size e)
  ·exact .inl (.inr (.inr (.inl a)))
  ·exact (F k a).imp (fun e=> .inr (.inr (.inr (.inl e)))) (fun e=>Nat.le_trans (Nat.le_trans m.size x.size) e)
  ·exact .inl (.inr (.inr (.inr (.inr a))))
 ·rcases e with e | e | e
  ·exact .inl (by rw [e];exact h.ses.ach)
  ·exact .inr (.inr (.inl e))
  ·exact .inr (.inr (.inr (.inl e)))
theorem CN [Kn] (h:fG E pp pb mb sb ch bl c w A q vr S recs vw v acc [] s) (Z:oJ S recs) {t:mK} (P:s.tx=some t) (G:tA t) {b:dW} (O:t.body=some b) (a:List UInt8) (d:Bool) (F:a.length≤1048576) (m:∀l∈(dn c s S recs t b a d).2.2.2,l.length≤1000) (a0:(dn c s S recs t b a d).2.2.2.flatten.length≤3000) (X:acc.length≤1099511627776) (n:(dn c s S recs t b a d).1.wait=s.wait):
  Calls Tryz.prog 67 #[.pointer (some ⟨sb,0,none⟩),.agg #[.string (bs a),.bool d],.pointer (some ⟨bl,0,none⟩)] w fun e w'=>e= .returned (.tuple #[])∧nK E A pp pb mb sb ch bl c q vr S vw v w (dn c s S recs t b a d).1 (dn c s S recs t b a d).2.1 (dn c s S recs t b a d).2.2.1 (acc++(dn c s S recs t b a d).2.2.2.flatten) w':=by
 obtain ⟨vx,J,K⟩:=h.ses.ex;rw [P] at K;obtain ⟨H,vt,vb,rfl,ha,N,hO,L⟩:=K;rw [O] at L;obtain ⟨I,vy,rfl,Y,B,W⟩:=L;obtain ⟨g,k⟩:∃g:World,w.alloc (.cells #[.string (bs a),.bool d] 138)=g:=⟨_,rfl⟩;have j:Below w.heap.size w g:=by rw [←k];exact (Below.refl _ _).alloc (Nat.le_refl _) _
 have z:g.heap[w.heap.size]? =some (.cells #[.string (bs a),.bool d] 138 (0,0)):=by rw [←k];exact heap_alloc_new w _
 have l0:g.cell? ⟨w.heap.size,0,none⟩=some (.string (bs a)):=by rw [Lib.cell_of_heap z];rfl
 have l1:g.cell? ⟨w.heap.size,1,none⟩=some (.bool d):=by rw [Lib.cell_of_heap z];rfl
 have c8:g.cell? ⟨sb,8,none⟩=some (.pointer (some ⟨H,0,none⟩)):=(J.below j).cell 8;have t2:g.cell? ⟨H,2,none⟩=some (.pointer (some ⟨I,0,none⟩)):=by rw [Lib.cell_of_heap (ae j N.blk)];rfl
 have i:=h.below j;have r:=Lib.hid (AL H I g t2);have u:=Lib.hid (E2 i.ses i.env i.bag Z P G O i.ab i.eb i.ea a d F);have Q:=Lib.hid h;have p:=Lib.hid i;have o:=Lib.hid j;have x:=Lib.hid m;have y:=Lib.hid n;clear h J N B i j z m n;go_enter_defers Tryz.func67,Tryz.ntmps67
 go_wp2_with fail
 refine r.out.mono ?_;rintro e w1 ⟨rfl,rfl⟩;go_wp2_with fail
 refine u.out.mono ?_;rintro e w2 ⟨rfl,M⟩;have R:=Lib.hid M;clear M;go_wp2_with fail
 refine leaves_cons (f:=63) (args:=#[.pointer (some ⟨sb,0,none⟩),.pointer (some ⟨bl,0,none⟩)]) (by simp) (by simp [go_sem]) ?_;obtain ⟨A1,q1,a1,C,g1,g2,g3⟩:=p.out.line R.out y.out;refine (C.take_d (fun l hl=>by have:=x.out l hl;omega) .returning (by omega)).mono ?_;rintro e u' w3 ⟨rfl,rfl,v3,D,T,U,V⟩;exact ⟨_,results_none rfl _ _ _,rfl,xG Q.out o.out g3 g1 g2 D T U V⟩
theorem xF [Kn] (h:fG E pp pb mb sb ch bl c w A q vr S recs vw v acc [] s) (u:∀t,s.tx=some t→t.body=none∧t.tos.length≤10) (a:List UInt8) (b:Bool) (Z:a.length≤1048576) (K:b=false→fp a) (J:∀l∈(bz c s (bn a b)).2,l.length≤1000) (Y:(bz c s (bn a b)).2.flatten.length≤3000) (a0:acc.length≤1099511627776) (L:(bz c s (bn a b)).1.wait=s.wait):
  Calls Tryz.prog 67 #[.pointer (some ⟨sb,0,none⟩),.agg #[.string (bs a),.bool b],.pointer (some ⟨bl,0,none⟩)] w fun e w'=>e= .returned (.tuple #[])∧nK E A pp pb mb sb ch bl c q vr S vw v w (bz c s (bn a b)).1 S recs (acc++(bz c s (bn a b)).2.flatten) w':=by
 obtain ⟨g,G⟩:∃g:World,w.alloc (.cells #[.string (bs a),.bool b] 138)=g:=⟨_,rfl⟩;have O:Below w.heap.size w g:=by rw [←G];exact (Below.refl _ _).alloc (Nat.le_refl _) _
 have R:g.heap[w.heap.size]? =some (.cells #[.string (bs a),.bool b] 138 (0,0)):=by rw [←G];exact heap_alloc_new w _
 have l0:g.cell? ⟨w.heap.size,0,none⟩=some (.string (bs a)):=by rw [Lib.cell_of_heap R];rfl
 have l1:g.cell? ⟨w.heap.size,1,none⟩=some (.bool b):=by rw [Lib.cell_of_heap R];rfl
 have n:=h.below O;obtain ⟨N,h1,d⟩:=n.ses.ex;have c8:g.cell? ⟨sb,8,none⟩=some N:=h1.cell 8;obtain ⟨m,hm⟩:=n.env.len
 have Q:Hid (Calls Tryz.prog 100 #[N] g fun e w'=>e= .returned (.bool false)∧g=w'):=Lib.hid (by
  cases x:s.tx with
  | none=>
   rw [x] at d;have d:N= .pointer none:=d;subst d;exact yY g
  | some t=>
   rw [x] at d;obtain ⟨tb,vt,vb,rfl,ha,hT,hO,M⟩:=d;rw [(u t x).1] at M;have M:vb= .pointer none:=M;subst M
   exact CL tb g (by rw [Lib.cell_of_heap hT.blk];rfl))
 obtain ⟨px,T⟩:∃p,N= .pointer p:=by
  cases x:s.tx with
  | none=>rw [x] at d;exact ⟨none,d⟩
  | some t=>rw [x] at d;obtain ⟨tb,vt,vb,e,_⟩:=d;exact ⟨_,e⟩
 subst T;have j:=Lib.hid (Ak a b m g Z K hm);have r:=Bw a b
 have I:(bn a b).name.length≤1048576:=by
  rcases r.name with e | e
  ·rw [e];simp
  ·have:=mY e;omega
 have i:Hid (∀W:World,Below g.heap.size g W→Calls Tryz.prog 102 #[.pointer (some ⟨sb,0,none⟩),jo (bn a b)] W (cP A pp pb sb ch vw W (bz c s (bn a b)).1 (bz c s (bn a b)).2)):=Lib.hid (fun W hb=>H8 (n.ses.below hb) (n.env.below hb) n.ea (bn a b) r.verb I u);have HH:=Lib.hid h;have P:=Lib.hid n;have y:=Lib.hid O;have C:=Lib.hid J;have D:=Lib.hid L;obtain ⟨kx,F⟩:∃k,bn a b=k:=⟨_,rfl⟩;rw [F] at j i C D Y ⊢;simp only [jo] at j i;clear h h1 d n O R J L hm r I K u F;go_enter_defers Tryz.func67,Tryz.ntmps67
 go_wp2_with fail
 refine Q.out.mono ?_;rintro e w1 ⟨rfl,rfl⟩;go_wp2_with fail
 refine j.out.mono ?_;rintro e w2 ⟨rfl,o⟩;have z:=Lib.hid o;have B:=Lib.hid (i.out w2 o);clear o i;go_wp2_with fail
 refine B.out.mono ?_;rintro e w3 U;have hr:=U.ret;subst hr;have HP:=Lib.hid U;clear U B;go_wp2_with fail
 refine leaves_cons (f:=63) (args:=#[.pointer (some ⟨sb,0,none⟩),.pointer (some ⟨bl,0,none⟩)]) (by simp) (by simp [go_sem]) ?_;have d:=P.out.below z.out;obtain ⟨A1,q1,a1,V,g1,g2,g3⟩:=d.line (gp.step d.bag d.ab HP.out) D.out;refine (V.take_d (fun l hl=>by have:=C.out l hl;omega) .returning (by omega)).mono ?_;rintro e u' w4 ⟨rfl,rfl,v4,X,g4,g5,g6⟩;have H:Below w.heap.size w w2:=y.out.trans (z.out.mono y.out.size);exact ⟨_,results_none rfl _ _ _,rfl,xG HH.out H g3 g1 g2 X g4 g5 g6⟩
end
structure gM (c:bX) (s:bG) (S:bp) (recs:List UInt8):Prop where
 tx:∀t,s.tx=some t→tA t∧(t.tos.length:Int)≤c.most
 time:S.time≤1000000000
 len:zP S recs
 recs:S.Ok
 wait:s.wait.length≤102
theorem gM.keep {c:bX} {s:bG} {S:bp} {a:List UInt8} (h:gM c s S a):oJ S a:=⟨h.time,by have:=h.len.items;omega,by have:=h.len.len;omega⟩
theorem gM.none {c:bX} {s s':bG} {S:bp} {a:List UInt8} (h:gM c s S a) (b:s'.tx=none) (d:s'.wait=s.wait):gM c s' S a:=⟨(fun t e=>by rw [b] at e;cases e),h.time,h.len,h.recs,by rw [d];exact h.wait⟩
theorem gM.same {c:bX} {s b:bG} {S:bp} {a:List UInt8} (h:gM c s S a) (d:b.tx=s.tx) (f:b.wait=s.wait):gM c b S a:=⟨fun t e=>h.tx t (by rw [←d];exact e),h.time,h.len,h.recs,by rw [f];exact h.wait⟩
def rq (ls:List (List UInt8)):Prop:=(∀l∈ls,l.length≤1000)∧ls.flatten.length≤3000
theorem dj {l:List UInt8} (h:l.length≤1000):rq [l]:=⟨fun x a=>by simp at a;rw [a];exact h,by simp;omega⟩
theorem FQ:rq []:=⟨(fun x a=>by cases a),by simp⟩
theorem ur {n:Int} (a:0≤n) (h:n≤4294967295):(Lib.itoa n).length≤10:=by
 unfold Lib.itoa;rw [if_neg (by omega)];exact kZ _ 9 (by omega)
theorem AN {c:bX} (h:ij c=true):(cQ c).length≤255:=by
 have:=(kg h).host;have e:=aG (cQ c);rw [sT] at e;omega
theorem Dl {l:List (List UInt8)} {x:List UInt8} (h:l.Nodup) (d:l.contains x=false):(l++[x]).Nodup:=by
 rw [List.nodup_append];refine ⟨h,by simp,fun a f b c e=>?_⟩
 simp at c;subst c;subst e;have:=List.contains_iff_mem.2 f;rw [this] at d
 cases d
theorem Dt (d:List (List UInt8)) (a:Int) (c:Bool) (b:List UInt8):rq [b9 d a c b]:=by
 apply dj;unfold b9
 split
 ·decide
 ·split
  ·decide
  ·split <;> decide
theorem Jw {t:mK} {c:Int} (m:c≤10) (f:Bool) {a:List UInt8} (h:tA t) (i:(t.tos.length:Int)≤c) (k:dH a=true) (g:t.body=none):tA {t with tos:=cY t.tos c f a}∧((cY t.tos c f a).length:Int)≤c:=by
 unfold cY
 split
 ·exact ⟨⟨h.frm,h.tos,h.one,h.most,fun b e=>by rw [show ({t with tos:=t.tos}:mK).body=t.body from rfl,g] at e;cases e⟩,i⟩
 ·rename_i j
  split
  ·exact ⟨⟨h.frm,h.tos,h.one,h.most,fun b e=>by rw [show ({t with tos:=t.tos}:mK).body=t.body from rfl,g] at e;cases e⟩,i⟩
  ·rename_i l
   split
   ·refine ⟨⟨h.frm,fun x d=>?_,Dl h.one (by simpa using j),?_,fun b e=>by rw [show ({t with tos:=t.tos++[a]}:mK).body=t.body from rfl,g] at e;cases e⟩,?_⟩
    ·have d:x∈t.tos++[a]:=d;rw [List.mem_append] at d
     rcases d with d | d
     ·exact h.tos x d
     ·simp at d;rw [d];exact k
    ·show (t.tos++[a]).length≤10;rw [List.length_append];simp only [List.length_cons,List.length_nil];omega
    ·rw [List.length_append];simp only [List.length_cons,List.length_nil];omega
   ·exact ⟨⟨h.frm,h.tos,h.one,h.most,fun b e=>by rw [show ({t with tos:=t.tos}:mK).body=t.body from rfl,g] at e;cases e⟩,i⟩
theorem Fz {c:bX} {s:bG} {S:bp} {d:List UInt8} (u:ij c=true) (h:gM c s S d) (k:og) (o:DZ k) (q:∀t,s.tx=some t→t.body=none):gM c (bz c s k).1 S d∧(bz c s k).1.wait=s.wait∧rq (bz c s k).2:=by
 have D:=ly u;have B:=AN u;have C:=ur (n:=c.size) (by omega) (by omega);obtain ⟨v,f,g,a⟩:=k;have r:v=0∨v=1∨v=2∨v=3∨v=4∨v=5∨v=6∨v=7∨v=8∨v=9∨v=10:=by have:=o.verb;simp only at this;omega
 unfold bz;simp only
 cases i:fO s v with
 | false=>exact ⟨h,rfl,dj (by decide)⟩
 | true=>
  simp only [Bool.true_eq_false,if_false]
  rcases r with rfl | rfl | rfl | rfl | rfl | rfl | rfl | rfl | rfl | rfl | rfl
  ·exact ⟨h,rfl,dj (by decide)⟩
  ·exact ⟨h,rfl,dj (by decide)⟩
  ·exact ⟨h.same rfl rfl,rfl,dj (by decide)⟩
  ·exact ⟨h,rfl,dj (by decide)⟩
  ·exact ⟨h.none rfl rfl,rfl,dj (by decide)⟩
  ·cases j:s.tx with
   | none=>rw [show fO s 5=false by unfold fO jA;rw [j];rfl] at i;cases i
   | some t=>
    obtain ⟨m,p⟩:=h.tx t j
    have y:0 < t.tos.length:=by
     unfold fO jA at i;rw [j] at i;simp at i;exact i.1
    refine ⟨⟨fun A e=>?_,h.time,h.len,h.recs,h.wait⟩,rfl,dj (by decide)⟩;injection e with e;subst e;exact ⟨⟨m.frm,m.tos,m.one,m.most,fun b e=>by injection e with e;subst e;exact ⟨y,by simp⟩⟩,p⟩
  ·exact ⟨h.none rfl rfl,rfl,dj (by simp only [List.length_append,List.length_cons,List.length_nil];omega)⟩
  ·refine ⟨h.none rfl rfl,rfl,fun l w=>?_,?_⟩
   ·simp only [List.mem_cons,List.not_mem_nil,or_false] at w
    rcases w with rfl | rfl | rfl
    ·simp only [List.length_append,List.length_cons,List.length_nil];omega
    ·simp only [List.length_append,List.length_cons,List.length_nil];omega
    ·decide
   ·simp only [List.flatten_cons,List.flatten_nil,List.length_append,List.length_cons,List.length_nil];omega
  ·change gM c (pW c s a).1 S d∧(pW c s a).1.wait=s.wait∧rq (pW c s a).2;unfold pW
   split
   ·exact ⟨h,rfl,dj (by decide)⟩
   ·split
    ·exact ⟨h.same rfl rfl,rfl,dj (by decide)⟩
    ·exact ⟨h,rfl,dj (by decide)⟩
  ·change gM c (lV c s f (g:Int)).1 S d∧(lV c s f (g:Int)).1.wait=s.wait∧rq (lV c s f (g:Int)).2;unfold lV
   split
   ·exact ⟨h,rfl,dj (by decide)⟩
   ·split
    ·exact ⟨h,rfl,dj (by decide)⟩
    ·refine ⟨⟨fun t e=>?_,h.time,h.len,h.recs,h.wait⟩,rfl,dj (by decide)⟩;injection e with e;subst e;exact ⟨⟨o.name,(fun x z=>by cases z),List.nodup_nil,Nat.zero_le _,(fun b e=>by cases e)⟩,by show (0:Int)≤_;omega⟩
  ·cases j:s.tx with
   | none=>rw [show fO s 10=false by unfold fO jA;rw [j];rfl] at i;cases i
   | some t=>
    obtain ⟨m,p⟩:=h.tx t j;refine ⟨⟨fun A e=>?_,h.time,h.len,h.recs,h.wait⟩,rfl,Dt _ _ _ _⟩;injection e with e;subst e;exact Jw (by omega) _ m p (o.rcpt rfl) (q t j)
theorem I0 {b:dW} {a:List UInt8} {d:Bool} {c:Int} (h:b.text.length≤1102) (f:c≤1000) (g:a.length≤100):(b.add a d c).text.length≤1102:=by
 unfold dW.add;have:=vY a
 split
 ·exact h
 ·rename_i e
  show ((if b.has then b.text++[13,10] else b.text)++jP a).length≤1102;rw [List.length_append]
  split
  ·rw [List.length_append];simp only [List.length_cons,List.length_nil];omega
  ·omega
theorem CH (l:List UInt8):(bJ l).length=8+l.length:=by unfold bJ;simp only [List.length_append,bf];omega
theorem CM {c:bX} {s:bG} {S:bp} {a:List UInt8} (q:ij c=true) (h:gM c s S a) {t:mK} (u:s.tx=some t) {b:dW} (o:t.body=some b) (d:List UInt8) (f:Bool) (m:d.length≤100):
  gM c (dn c s S a t b d f).1 (dn c s S a t b d f).2.1 (dn c s S a t b d f).2.2.1∧(dn c s S a t b d f).1.wait=s.wait∧rq (dn c s S a t b d f).2.2.2:=by
 have x:=ly q;obtain ⟨g,r⟩:=h.tx t u;have i:=(g.body b o);unfold dn
 split
 ·unfold kz
  split
  ·exact ⟨h.none rfl rfl,rfl,dj (by decide)⟩
  ·split
   ·exact ⟨h.none rfl rfl,rfl,dj (by decide)⟩
   ·split
    ·rename_i j
     have l:((a.length+(8+(k9 (eJ S t.frm t.tos b.text)).length):Nat):Int)≤c.room:=by
      unfold jt at j;simp only [Bool.not_eq_true',decide_eq_false_iff_not] at j;omega
     have k:=CH (k9 (eJ S t.frm t.tos b.text));have p:=h.len.items;refine ⟨⟨(fun v e=>by cases e),h.time,?_,?_,h.wait⟩,rfl,dj ?_⟩
     ·show zP (S.plus (eJ S t.frm t.tos b.text)) (a++bJ (k9 (eJ S t.frm t.tos b.text)));exact h.len.plus g.most (GL _) (by rw [k];omega)
     ·exact h.recs.plus rfl (td h.keep g o) i.1 g.most
     ·have:=ur (n:=(S.items.length:Int)+1) (by omega) (by omega);simp only [List.length_append,List.length_cons,List.length_nil];omega
    ·exact ⟨h.none rfl rfl,rfl,dj (by decide)⟩
 ·refine ⟨⟨fun v e=>?_,h.time,h.len,h.recs,h.wait⟩,rfl,FQ⟩;injection e with e;subst e;exact ⟨⟨g.frm,g.tos,g.one,g.most,fun w e=>by injection e with e;subst e;exact ⟨i.1,I0 i.2 (by omega) m⟩⟩,r⟩
theorem iU {c:bX} {s:bG} {S:bp} {d:List UInt8} (m:ij c=true) (h:gM c s S d) (a:List UInt8) (f:Bool) (l:a.length≤100):
  gM c (aO c s S d a f).1 (aO c s S d a f).2.1 (aO c s S d a f).2.2.1∧(aO c s S d a f).1.wait=s.wait∧rq (aO c s S d a f).2.2.2:=by
 have i:(∀t,s.tx=some t→t.body=none)→_:=fun k=>Fz m h (bn a f) (Bw a f) k
 cases g:s.tx with
 | none=>
  have e:aO c s S d a f=((bz c s (bn a f)).1,S,d,(bz c s (bn a f)).2):=by unfold aO;rw [g]
  rw [e];exact i (fun t e=>by rw [g] at e;cases e)
 | some t=>
  cases j:t.body with
  | none=>
   have e:aO c s S d a f=((bz c s (bn a f)).1,S,d,(bz c s (bn a f)).2):=by unfold aO;rw [g];simp only;rw [j]
   rw [e];exact i (fun n e=>by rw [g] at e;injection e with e;subst e;exact j)
  | some b=>
   have e:aO c s S d a f=dn c s S d t b a f:=by unfold aO;rw [g];simp only;rw [j]
   rw [e];exact CM m h g j a f l
theorem Hl (l:List UInt8):(jw l).1.length≤100∧((jw l).2=false→fp (jw l).1):=by
 unfold jw
 split
 ·exact ⟨by simp,fun e=>by cases e⟩
 ·rename_i h
  simp only [Bool.or_eq_true,decide_eq_true_eq,List.any_eq_true,not_or,not_exists,not_and] at h;refine ⟨by show l.length≤100;omega,fun _ x a=>?_⟩
  have:=h.2 x a;unfold tD at this;simp only [Bool.or_eq_true,decide_eq_true_eq,not_or] at this;omega
section
variable {E:Nat→Prop} {pp pb mb sb ch bl:Nat} {c:bX} {w:World} {A:Nat→Prop} {q:Nat→Nat} {vr:Value} {S:bp} {recs:List UInt8} {vw v:Value} {acc:List UInt8} {ls:List (List UInt8)} {s:bG}
theorem E5 [Kn] (h:fG E pp pb mb sb ch bl c w A q vr S recs vw v acc [] s) (m:gM c s S recs) (a:List UInt8) (d:Bool) (n:a.length≤100) (k:d=false→fp a) (i:acc.length≤1099511627776):
  Calls Tryz.prog 67 #[.pointer (some ⟨sb,0,none⟩),.agg #[.string (bs a),.bool d],.pointer (some ⟨bl,0,none⟩)] w fun e o=>e= .returned (.tuple #[])∧nK E A pp pb mb sb ch bl c q vr S vw v w (aO c s S recs a d).1 (aO c s S recs a d).2.1 (aO c s S recs a d).2.2.1 (acc++(aO c s S recs a d).2.2.2.flatten) o:=by
 obtain ⟨_,j,f⟩:=iU h.env.may m a d n
 cases g:s.tx with
 | none=>
  have e:aO c s S recs a d=((bz c s (bn a d)).1,S,recs,(bz c s (bn a d)).2):=by unfold aO;rw [g]
  rw [e] at j f ⊢;exact xF h (fun t e=>by rw [g] at e;cases e) a d (by omega) k f.1 f.2 i j
 | some t=>
  cases l:t.body with
  | none=>
   have e:aO c s S recs a d=((bz c s (bn a d)).1,S,recs,(bz c s (bn a d)).2):=by unfold aO;rw [g];simp only;rw [l]
   rw [e] at j f ⊢;exact xF h (fun p e=>by rw [g] at e;injection e with e;subst e;exact ⟨l,(m.tx t g).1.most⟩) a d (by omega) k f.1 f.2 i j
  | some b=>
   have e:aO c s S recs a d=dn c s S recs t b a d:=by unfold aO;rw [g];simp only;rw [l]
   rw [e] at j f ⊢;exact CN h m.keep g (m.tx t g).1 l a d (by omega) f.1 f.2 i j
end
def gQ (c:bX) (x:bG×bp×List UInt8×List UInt8) (b:UInt8):bG×bp×List UInt8×List UInt8:=
 if x.1.over then x else
 match j4 x.1.wait b with
 | (wt,none)=>({x.1 with wait:=wt},x.2.1,x.2.2.1,x.2.2.2)
 | (wt,some l)=>((aO c {x.1 with wait:=wt} x.2.1 x.2.2.1 l.1 l.2).1,(aO c {x.1 with wait:=wt} x.2.1 x.2.2.1 l.1 l.2).2.1,(aO c {x.1 with wait:=wt} x.2.1 x.2.2.1 l.1 l.2).2.2.1,x.2.2.2++(aO c {x.1 with wait:=wt} x.2.1 x.2.2.1 l.1 l.2).2.2.2.flatten)
def cL (c:bX) (x:bG×bp×List UInt8×List UInt8) (piece:List UInt8):bG×bp×List UInt8×List UInt8:=piece.foldl (gQ c) x
theorem vQ (a:List UInt8) (b:UInt8):(j4 a b).1.length≤102∧∀l,(j4 a b).2=some l→l.1.length≤100∧(l.2=false→fp l.1):=by
 unfold j4
 split
 ·refine ⟨by simp,fun l e=>?_⟩
  injection e with e;rw [←e];exact Hl _
 ·exact ⟨DI _,fun l e=>by cases e⟩
theorem FW {c:bX} (f:ij c=true) {x:bG×bp×List UInt8×List UInt8} (h:gM c x.1 x.2.1 x.2.2.1) (b:UInt8):gM c (gQ c x b).1 (gQ c x b).2.1 (gQ c x b).2.2.1∧(gQ c x b).2.2.2.length≤x.2.2.2.length+3000:=by
 unfold gQ
 split
 ·exact ⟨h,by omega⟩
 ·have a:=vQ x.1.wait b
  rcases hx:j4 x.1.wait b with ⟨e,o⟩;rw [hx] at a;have d:gM c {x.1 with wait:=e} x.2.1 x.2.2.1:=⟨h.tx,h.time,h.len,h.recs,a.1⟩
  cases o with
  | none=>exact ⟨d,Nat.le_add_right _ _⟩
  | some l=>
   obtain ⟨g,_,i⟩:=iU f d l.1 l.2 (a.2 l rfl).1;refine ⟨g,?_⟩;show (x.2.2.2++(aO c {x.1 with wait:=e} x.2.1 x.2.2.1 l.1 l.2).2.2.2.flatten).length≤_;rw [List.length_append];exact Nat.add_le_add_left i.2 _
theorem qO {c:bX} (d:ij c=true):∀(a:List UInt8) (x:bG×bp×List UInt8×List UInt8),gM c x.1 x.2.1 x.2.2.1→gM c (cL c x a).1 (cL c x a).2.1 (cL c x a).2.2.1∧(cL c x a).2.2.2.length≤x.2.2.2.length+3000 * a.length
 | [],x,h=>⟨h,by show x.2.2.2.length≤_;omega⟩
 | b::r,x,h=>by
  obtain ⟨e,g⟩:=FW d h b;obtain ⟨f,i⟩:=qO d r (gQ c x b) e;refine ⟨f,?_⟩;show (cL c (gQ c x b) r).2.2.2.length≤_;rw [List.length_cons];omega
theorem uh {c:bX} {x:bG×bp×List UInt8×List UInt8} (h:x.1.over=true):∀a,cL c x a=x
 | []=>rfl
 | b::r=>by
  show cL c (gQ c x b) r=x;have:gQ c x b=x:=by unfold gQ;rw [h];rfl
  rw [this];exact uh h r
theorem CO (c:bX) (x:bG×bp×List UInt8×List UInt8) (a:List UInt8) (k:Nat) (h:k < a.length):cL c x (a.take (k+1))=gQ c (cL c x (a.take k)) a[k]:=by
 unfold cL;rw [List.take_succ_eq_append_getElem h,List.foldl_append];rfl
def LL:List (List UInt8):=[[72,69,76,79,32,120],
 [69,72,76,79,32,121,46,122],
 [65,85,84,72,32,80,76,65,73,78,32,65,72,85,65,100,119,61,61],
 [65,85,84,72,32,80,76,65,73,78,32,100,81,66,49,65,72,99,61],
 [65,85,84,72,32,80,76,65,73,78,32,65,72,85,65,101,65,61,61],
 [65,85,84,72,32,80,76,65,73,78,32,65,72,89,65,98,71,57,117,90,121,66,51,98,51,74,107],
 [65,85,84,72,32,80,76,65,73,78,32,100,103,66,49,65,72,99,61],
 [78,79,79,80],
 [82,83,69,84],
 [81,85,73,84],
 [87,72,65,84],
 [72,69,76,79],
 [77,65,73,76,32,70,82,79,77,58,60,97,64,98,62,32,83,73,90,69,61,50,48,48,48],
 [77,65,73,76,32,70,82,79,77,58,60,62],
 [109,97,105,108,32,102,114,111,109,58,60,109,101,64,72,69,82,69,46,111,114,103,62],
 [77,65,73,76,32,70,82,79,77,58,60,120,64,99,46,100,62,32,83,73,90,69,61,53],
 [82,67,80,84,32,84,79,58,60,106,64,97,46,111,114,103,62],
 [82,67,80,84,32,84,79,58,60,107,64,65,46,79,82,71,62],
 [82,67,80,84,32,84,79,58,60,108,64,98,46,110,101,116,62],
 [82,67,80,84,32,84,79,58,60,109,64,99,46,111,114,103,62],
 [82,67,80,84,32,84,79,58,60,110,64,100,46,111,114,103,62],
 [114,99,112,116,32,116,111,58,60,106,64,65,46,111,114,103,62],
 [68,65,84,65],
 [104,101,108,108,111],
 [46,46,116,119,111,32,100,111,116,115],
 [],
 [46],
 [97,32,108,105,110,101,32,111,102,32,97,32,98,111,100,121,32,116,104,97,116,32,105,115,32,108,111,110,103,101,114,32,116,104,97,110,32,109,111,115,116],
 [77,65,73,76,32,70,82,79,77,58,60,109,101,64,104,101,114,101,46,111,114,103,62],
 [46,46],
 [116,111,32,116,104,114,101,101]]
def mg:List UInt8:=[65,85,84,72]
def gZ:List UInt8:=[82,67,80,84]
def fT:List UInt8:=[81,85,73,84]
def Me (l:List UInt8):Bool:=bu l [82,83,69,84] || bu l [77,65,73,76] || bu l [72,69,76,79] || bu l [69,72,76,79]
def fV (l:List UInt8):List UInt8:=(fq ((l.take (l.length - 1)).drop 9)).1++[64]++(fq ((l.take (l.length - 1)).drop 9)).2.1
def Ke:List UInt8:=[97,46,111,114,103]
def Ki:List UInt8:=[98,46,110,101,116]
def na:List ByteArray:=[bs [97,46,111,114,103],bs [66,46,110,101,116]]
def xJ (t:List UInt8):Bool:=ET t == Ke || ET t == Ki
def zK (l:List UInt8):Bool:=decide (l.length≤100) && l.all fun b=>decide (32≤b.toNat) && decide (b.toNat≤126)
def JI (l:List UInt8):Bool:=
 zK l && (bu l fT == ((bn l false).verb == 2)) &&
 (!((bn l false).verb == 4 || (bn l false).verb == 6 || (bn l false).verb == 7 || (bn l false).verb == 9) || Me l) &&
 (!Me l || ((bn l false).verb == 4 || (bn l false).verb == 6 || (bn l false).verb == 7 || (bn l false).verb == 9 || (bn l false).verb == 1)) &&
 (bu l mg == ((bn l false).verb == 8)) && (bu l gZ == ((bn l false).verb == 10)) &&
 (!((bn l false).verb == 10) || (decide (10≤l.length) && fV l == (bn l false).name && xJ (bn l false).name == ((fq (bn l false).name).2.2 && na.any (my (bs (fq (bn l false).name).2.1))))) &&
 decide ((bn l false).verb≤10)
theorem J9:LL.all JI=true:=by kernel_rfl
structure tr (l:List UInt8):Prop where
 ok:zK l=true
 quit:bu l fT=((bn l false).verb == 2)
 over:((bn l false).verb=4∨(bn l false).verb=6∨(bn l false).verb=7∨(bn l false).verb=9)→Me l=true
 overs:Me l=true→((bn l false).verb=4∨(bn l false).verb=6∨(bn l false).verb=7∨(bn l false).verb=9∨(bn l false).verb=1)
 auth:bu l mg=((bn l false).verb == 8)
 rcpt:bu l gZ=((bn l false).verb == 10)
 addr:(bn l false).verb=10→10≤l.length∧fV l=(bn l false).name∧xJ (bn l false).name=((fq (bn l false).name).2.2 && na.any (my (bs (fq (bn l false).name).2.1)))
 most:(bn l false).verb≤10
theorem pZ {l:List UInt8} (h:l∈LL):tr l:=by
 have:=List.all_eq_true.1 J9 l h;unfold JI at this;simp only [Bool.and_eq_true,Bool.or_eq_true,Bool.not_eq_true',beq_iff_eq,decide_eq_true_eq] at this;obtain ⟨⟨⟨⟨⟨⟨⟨d,f⟩,b⟩,c⟩,g⟩,i⟩,a⟩,j⟩:=this;refine ⟨d,f,fun e=>?_,fun e=>?_,g,i,fun e=>?_,j⟩
 ·rcases b with b | b
  ·rw [Bool.or_eq_false_iff,Bool.or_eq_false_iff,Bool.or_eq_false_iff] at b;simp only [beq_eq_false_iff_ne] at b;omega
  ·exact b
 ·rcases c with c | c
  ·rw [e] at c;cases c
  ·omega
 ·rcases a with a | a
  ·rw [beq_eq_false_iff_ne] at a;exact absurd e a
  ·exact ⟨a.1.1,a.1.2,a.2⟩
theorem FY {p:List UInt8} {b:UInt8} (a:b.toNat≠10) (e:p.length < 102):j4 p b=(p++[b],none):=by
 have c:pK (p++[b])=false:=by
  unfold pK Lib.hasSuffix;rw [←Bool.not_eq_true];intro h;have h:=List.isSuffixOf_iff_suffix.1 h;obtain ⟨t,d⟩:=h;have:=congrArg List.getLast? d;rw [show t++[13,10]=(t++[13])++[10] by simp,List.getLast?_concat,List.getLast?_concat] at this
  injection this with this;exact a (by rw [←this];rfl)
 unfold j4;rw [c,if_neg (by decide)];unfold lk;rw [if_neg (by rw [List.length_append,List.length_singleton];omega)]
theorem IE {p:List UInt8}:j4 (p++[13]) 10=([],some (jw p)):=by
 have a:pK (p++[13]++[10])=true:=by
  unfold pK Lib.hasSuffix;exact List.isSuffixOf_iff_suffix.2 ⟨p,by simp⟩
 unfold j4;rw [a,if_pos rfl]
 congr 3
 rw [show p++[13]++[10]=p++[13,10] by simp,List.length_append,show ([13,10]:List UInt8).length=2 from rfl,Nat.add_sub_cancel,List.take_left]
theorem xI (c:bX) (S:bp) (a d:List UInt8):∀(l:List UInt8) (s:bG),s.over=false→(∀b∈l,b.toNat≠10)→s.wait.length+l.length≤101→cL c (s,S,a,d) l=({s with wait:=s.wait++l},S,a,d)
 | [],s,_,_,_=>by
  show (s,S,a,d)=_;rw [List.append_nil]
 | b::r,s,ho,hb,hl=>by
  rw [List.length_cons] at hl;show cL c (gQ c (s,S,a,d) b) r=_
  have e:gQ c (s,S,a,d) b=({s with wait:=s.wait++[b]},S,a,d):=by
   unfold gQ;simp only [ho,Bool.false_eq_true,if_false];rw [FY (hb b (List.mem_cons_self ..)) (by omega)]
  rw [e,xI c S a d r {s with wait:=s.wait++[b]} ho (fun x f=>hb x (List.mem_cons_of_mem _ f)) (by show (s.wait++[b]).length+r.length≤101;rw [List.length_append,List.length_singleton];omega)];show ({s with wait:=s.wait++[b]++r},S,a,d)=_;rw [List.append_assoc];rfl
theorem uQ {l:List UInt8} (h:zK l=true):l.length≤100∧(∀b∈l,b.toNat≠10∧b.toNat≠13)∧jw l=(l,false):=by
 unfold zK at h;rw [Bool.and_eq_true,decide_eq_true_eq,List.all_eq_true] at h;have a:∀b∈l,32≤b.toNat∧b.toNat≤126:=fun b a=>by have:=h.2 b a;rwa [Bool.and_eq_true,decide_eq_true_eq,decide_eq_true_eq] at this
 refine ⟨h.1,fun b x=>by have:=a b x;omega,?_⟩
 unfold jw;rw [if_neg];rw [Bool.or_eq_true,decide_eq_true_eq,List.any_eq_true];rintro (e | ⟨b,d,c⟩)
 ·omega
 ·have:=a b d;unfold tD at c;simp only [Bool.or_eq_true,decide_eq_true_eq] at c;omega
theorem lQ (c:bX) (s:bG) (S:bp) (a d:List UInt8) {l:List UInt8} (h:zK l=true) (f:s.over=false) (g:s.wait=[]):cL c (s,S,a,d) (l++[13,10])=((aO c s S a l false).1,(aO c s S a l false).2.1,(aO c s S a l false).2.2.1,d++(aO c s S a l false).2.2.2.flatten):=by
 obtain ⟨o,m,n⟩:=uQ h;have j:l++[13,10]=(l++[13])++[10]:=by simp
 unfold cL;rw [j,List.foldl_append]
 have i:=xI c S a d (l++[13]) s f (fun b e=>by
  rcases List.mem_append.1 e with e | e
  ·exact (m b e).1
  ·rw [List.mem_singleton.1 e];decide) (by rw [g,List.length_append,List.length_nil,List.length_singleton];omega)
 unfold cL at i;rw [i,g,List.nil_append];show gQ c ({s with wait:=l++[13]},S,a,d) 10=_;unfold gQ;simp only [f,Bool.false_eq_true,if_false];rw [IE,n]
 have k:(bG.mk s.nets s.greeted s.known false [] s.tx)=s:=by
  cases s
  cases f
  cases g
  rfl
 simp only [k]
theorem gI (c:bX) (s:bG) (S:bp) (a b:List UInt8) {l:List UInt8} (h:zK l=true) (d:s.over=false) (e:s.wait=[]) (r:List UInt8):cL c (s,S,a,b) (l++[13,10]++r)=cL c ((aO c s S a l false).1,(aO c s S a l false).2.1,(aO c s S a l false).2.2.1,b++(aO c s S a l false).2.2.2.flatten) r:=by
 rw [←lQ c s S a b h d e];unfold cL;rw [List.foldl_append]
structure iB (S S':bp):Prop where
 len:S.items.length≤S'.items.length
 mail:∀j,j < S.items.length→S'.mailOf j=S.mailOf j
 stay:∀j,j < S.items.length→∀r∈S'.stayOf j,r∈S.stayOf j
 new:∀j,S.items.length≤j→j < S'.items.length→xu (S'.mailOf j)
theorem iB.refl (S:bp):iB S S:=⟨Nat.le_refl _,fun _ _=>rfl,fun _ _ _ h=>h,fun _ a b=>by omega⟩
theorem iB.trans {S d a:bp} (h:iB S d) (b:iB d a):iB S a:=
 ⟨Nat.le_trans h.len b.len,fun j c=>(b.mail j (Nat.lt_of_lt_of_le c h.len)).trans (h.mail j c),fun j c r i=>h.stay j c r (b.stay j (Nat.lt_of_lt_of_le c h.len) r i),fun j f g=>by
  by_cases e:j < d.items.length
  ·rw [b.mail j e];exact h.new j f e
  ·exact b.new j (by omega) g⟩
theorem Left.later {x y:bp×List UInt8} {i:Nat} {c:List Nat} (h:Left x y i c):iB x.1 y.1:=
 ⟨h.aft.len,h.aft.mail,fun j b r a=>by
  by_cases e:j=i
  ·subst e;rw [h.stay] at a;exact (List.mem_filter.1 a).1
  ·rw [h.aft.stay j b e] at a
   exact a,h.new⟩
theorem CY (S:bp) (T:Nat):iB S ⟨S.items,T⟩:=⟨Nat.le_refl _,fun _ _=>rfl,fun _ _ _ h=>h,fun j h1 (a:j < S.items.length)=>by omega⟩
theorem rX (a:List (List UInt8)) (o:List Bool):((stay a o).map (·.1)).Pairwise (·< ·):=by
 unfold stay;rw [List.map_map];have:((fun r:Nat×List UInt8=>r.1) ∘ fun i=>(i,a.getD i []))=id:=rfl;rw [this,List.map_id];exact LK o _
theorem kE {S:bp} (h:S.Ok) (i:Nat):∀x∈(S.stayOf i).map (·.1),x≤255:=by
 intro x d;obtain ⟨r,a,rfl⟩:=List.mem_map.1 d
 rcases Nat.lt_or_ge i S.items.length with b | b
 ·rw [gT b] at a;unfold stay at a;obtain ⟨k,c,rfl⟩:=List.mem_map.1 a;unfold iW at c;have:=List.mem_range.1 (List.mem_filter.1 c).1;have:=h.sz S.items[i] (List.getElem_mem b);show k≤255;omega
 ·rw [rb b] at a;cases a
def kW (life:Int) (x:bp×List UInt8) (i:Nat):bp×List UInt8:=if life≤(x.1.time:Int) - ((x.1.mailOf i).time:Int) then jr x i ((x.1.stayOf i).map (·.1)) else x
def dw (life:Int) (x:bp×List UInt8) (l:List Nat):bp×List UInt8:=l.foldl (kW life) x
theorem pg (a:Int) (x:bp×List UInt8) (l:List Nat) (i:Nat):dw a x (l++[i])=kW a (dw a x l) i:=by unfold dw;rw [List.foldl_append];rfl
theorem ud {x:bp×List UInt8} (h:oK x) {i:Nat} (a:i∈x.1.live):((x.1.stayOf i).map (·.1)).length≤100∧bF ((x.1.stayOf i).map (·.1))=true∧((x.1.stayOf i).map (·.1)≠[]→bt x.1 (i+1) ((x.1.stayOf i).map (·.1))=true):=by
 refine ⟨by rw [List.length_map];have:=dk h.ok i;omega,jg (rX _ _),fun e=>Dd a (List.length_pos_iff.2 e) (fun p b=>b)⟩
theorem F5 {x:bp×List UInt8} (h:oK x) {i:Nat} (e:i∈x.1.live) (d:Int):oK (kW d x i)∧DY i x.1 (kW d x i).1∧iB x.1 (kW d x i).1:=by
 unfold kW
 split
 ·obtain ⟨a,b,c⟩:=ud h e;have:=(nP h a b c).1;exact ⟨this.ok,this.aft,this.later⟩
 ·exact ⟨h,DY.refl _ _,iB.refl _⟩
theorem Gj {S a:bp} {i j:Nat} (h:DY i S a) (b:j∈S.live) (d:j≠i):j∈a.live:=by
 have c:=bq b;refine zo ?_;rw [h.stay j c d];exact (jT.1 b).2
theorem lB {x:bp×List UInt8} (h:oK x) (d:Int) {l:List Nat} (q:∀i∈l,i∈x.1.live) (r:l.Nodup):∀k,k≤l.length→oK (dw d x (l.take k))∧(∀i∈l.drop k,i∈(dw d x (l.take k)).1.live)∧(dw d x (l.take k)).1.time=x.1.time∧iB x.1 (dw d x (l.take k)).1:=by
 intro k
 induction k with
 | zero=>exact fun _=>⟨h,fun i f=>q i f,rfl,iB.refl _⟩
 | succ k ih=>
  intro s;obtain ⟨n,g,o,p⟩:=ih (by omega);rw [List.take_succ_eq_append_getElem (by omega:k < l.length),pg];have m:l.drop k=l[k]::l.drop (k+1):=List.drop_eq_getElem_cons (by omega);rw [m] at g;obtain ⟨a,b,c⟩:=F5 n (g _ (List.mem_cons_self ..)) d;have j:(l[k]::l.drop (k+1)).Nodup:=by rw [←m];exact r.sublist (List.drop_sublist _ _)
  exact ⟨a,fun i f=>Gj b (g i (List.mem_cons_of_mem _ f)) (fun e=>(List.nodup_cons.1 j).1 (by rw [←e];exact f)),b.time.trans o,p.trans c⟩
end Go.Proofs.YtofpegbpgkkgkaaGreatDoor
