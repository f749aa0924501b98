import Derived.Test.YtofpegbpgkkgkaaGreatDoorS29
import Derived.Test.YtofpegbpgkkgkaaGreatDoorS24
namespace Go.Proofs.YtofpegbpgkkgkaaGreatDoor
set_option maxHeartbeats 8000000
set_option maxRecDepth 1000000
open Go.RowKit
def mB:Nat→aa→Nat→List UInt8→aa×Nat
 | 0,S,k,_=>(S,k)
 | f+1,S,k,l=>
  match l7 l with
  | none=>(S,k)
  | some c=>match S.takes c.1 with
   | none=>(S,k)
   | some S'=>mB f S' (k+8+c.1.length) c.2
def fR (l:List UInt8):aa×Nat:=mB (l.length+1) ⟨[],0⟩ 0 l
theorem Gh {f k:Nat} {S:aa} {l:List UInt8} (h:l7 l=none):mB (f+1) S k l=(S,k):=by
 rw [mB,h]
theorem Eg {f k:Nat} {S:aa} {l:List UInt8} {c:List UInt8×List UInt8} (h:l7 l=some c) (a:S.takes c.1=none):mB (f+1) S k l=(S,k):=by
 rw [mB,h];simp only [a]
theorem Eh {f k:Nat} {S a:aa} {l:List UInt8} {c:List UInt8×List UInt8} (h:l7 l=some c) (b:S.takes c.1=some a):mB (f+1) S k l=mB f a (k+8+c.1.length) c.2:=by
 rw [mB,h];simp only [b]
theorem CM (l:List UInt8):l7 l=if l.length < 8+be (l.take 4)∨¬be ((l.drop 4).take 4)=yj ((l.drop 8).take (be (l.take 4))) then none else some ((l.drop 8).take (be (l.take 4)),(l.drop 8).drop (be (l.take 4))):=by
 have e:(l.drop 4).drop 4=l.drop 8:=by rw [List.drop_drop]
 have g:(l.drop 8).length=l.length - 8:=List.length_drop;unfold l7 fU
 by_cases c:4≤l.length
 ·rw [if_pos c];simp only [sb]
  by_cases a:4≤(l.drop 4).length
  ·rw [if_pos a];simp only [sb];rw [e];unfold bg;rw [List.length_drop] at a;obtain ⟨r,f⟩:∃r,l.drop 8=r:=⟨_,rfl⟩;rw [f] at g ⊢
   by_cases d:be (l.take 4)≤r.length
   ·rw [if_pos d];simp only [sb]
    by_cases b:yj (r.take (be (l.take 4)))=be ((l.drop 4).take 4)
    ·rw [if_pos b,if_neg (by
      rintro (h | h)
      ·omega
      ·exact h b.symm)]
    ·rw [if_neg b,if_pos (.inr (fun h=>b h.symm))]
   ·rw [if_neg d,if_pos (.inl (by omega))];rfl
  ·rw [if_neg a];rw [List.length_drop] at a;rw [if_pos (.inl (by omega))];rfl
 ·rw [if_neg c,if_pos (.inl (by omega))];rfl
theorem tu (S:aa) (K:Nat) (a:List Nat):(S.outs K a).items.length=S.items.length∧(S.outs K a).time=S.time:=by
 unfold aa.outs;simp
theorem xr (S:aa) (m:aR) (a:List Nat) (T:Nat):(S.failed m a T).items.length≤S.items.length+1∧(S.failed m a T).time=T:=by
 unfold aa.failed
 split <;> simp
theorem Ak {S d:aa} {l:List UInt8} (h:S.takes l=some d) (f:S.time≤1000000000):d.items.length≤S.items.length+1∧d.time≤1000000000:=by
 cases l with
 | nil=>cases h
 | cons c r=>
  unfold aa.takes at h;simp only at h
  split at h
  ·split at h
   ·rename_i b
    injection h with h;subst h;rw [Bool.and_eq_true] at b;have a:=b.1;unfold pt at a;simp only [Bool.and_eq_true,decide_eq_true_eq] at a;exact ⟨by simp,a.1.1.1.1.1.2⟩
   ·cases h
  ·split at h
   ·split at h
    ·injection h with h;subst h;have:=tu S ((bB r).1 - 1) (bB r).2;exact ⟨by omega,by omega⟩
    ·cases h
   ·split at h
    ·split at h
     ·rename_i b
      injection h with h;subst h;simp only [Bool.and_eq_true,decide_eq_true_eq] at b;have a:=tu S ((bB (r.drop 4)).1 - 1) (bB (r.drop 4)).2;have e:=xr (S.outs ((bB (r.drop 4)).1 - 1) (bB (r.drop 4)).2) (S.mailOf ((bB (r.drop 4)).1 - 1)) (bB (r.drop 4)).2 (be (r.take 4));exact ⟨by omega,by omega⟩
     ·cases h
    ·cases h
theorem Fa {l:List UInt8} {c:List UInt8×List UInt8} (h:l7 l=some c):l.length=8+c.1.length+c.2.length:=by
 rw [CM] at h
 split at h
 ·cases h
 ·rename_i a
  injection h with h;subst h;simp only [List.length_take,List.length_drop];have:¬l.length < 8+be (l.take 4):=fun e=>a (.inl e);omega
structure ug (t:mN):Prop where
 frm:t.frm=[]∨dx t.frm=true
 tos:∀x∈t.tos,dx x=true
 one:t.tos.Nodup
 most:t.tos.length≤10
 body:∀b,t.body=some b→1≤t.tos.length∧b.text.length≤1102
structure nM (S:aa) (recs:List UInt8):Prop where
 time:S.time≤1000000000
 len:S.items.length+1≤4294967295
 recs:recs.length≤1073741824
theorem mh {l:List UInt8} (h:dx l=true):l.length≤61:=by
 unfold dx at h;rw [Bool.and_eq_true,beq_iff_eq] at h;have:=vm l;rw [←h.2];unfold iG;simp only [List.length_append,List.length_cons];omega
theorem Ek {a:List (List UInt8)} (h:1≤a.length) (i:a.length≤10) (l:∀x∈a,dx x=true) (m:a.Nodup):hY a=true:=by
 unfold hY;rw [decide_eq_true h,decide_eq_true i];simp only [Bool.true_and,List.all_eq_true,List.mem_range];intro k f;have e:∀j (d:j < a.length),a.getD j []=a[j]:=fun j d=>by rw [List.getD_eq_getElem?_getD,List.getElem?_eq_getElem d];rfl
 unfold nJ xt;rw [Bool.and_eq_true];refine ⟨by rw [e k f];exact l _ (List.getElem_mem f),?_⟩
 simp only [List.all_eq_true,List.mem_range,Bool.not_eq_true',beq_eq_false_iff_ne];intro j d;rw [e j (by omega),e k f];intro g;have:=(List.nodup_iff_pairwise_ne.1 m);rw [List.pairwise_iff_getElem] at this;exact this j k (by omega) f d g
section
variable {S:aa} {recs:List UInt8} {t:mN} {b:dV}
theorem xL (d:nM S recs) (a:ug t) (f:t.body=some b):dq (eH S t.frm t.tos b.text):=by
 have g:t.frm.length≤255:=by
  rcases a.frm with e | e
  ·rw [e];simp
  ·have:=mh e;omega
 have i:=a.most;have j:=(a.body b f).2;have k:=d.time;exact ⟨d.len,by show S.time≤_;omega,g,by show t.tos.length≤_;omega,fun x h=>by have:=mh (a.tos x h);omega,by show b.text.length≤_;omega⟩
theorem FU (j:nM S recs) (a:ug t) (i:t.body=some b) (p:b.text.length≤1000):bL (dd (eH S t.frm t.tos b.text))=some (eH S t.frm t.tos b.text):=by
 have u:=xL j a i;obtain ⟨y,z,B,C,v,D⟩:=u;have g:=a.body b i;have d:rP (eH S t.frm t.tos b.text):=⟨by omega,by omega,by omega,by omega,fun x r=>by have:=v x r;omega,by show b.text.length < _;omega⟩
 have f:de (eH S t.frm t.tos b.text)=true:=by
  unfold de;have k:decide ((eH S t.frm t.tos b.text).time≤1000000000)=true:=decide_eq_true j.time
  have m:((eH S t.frm t.tos b.text).frm.isEmpty || dx (eH S t.frm t.tos b.text).frm)=true:=by
   show (t.frm.isEmpty || dx t.frm)=true
   rcases a.frm with e | e
   ·rw [e];rfl
   ·rw [e,Bool.or_true]
  have n:hY (eH S t.frm t.tos b.text).tos=true:=Ek g.1 a.most a.tos a.one;have o:decide ((eH S t.frm t.tos b.text).body.length≤1000)=true:=decide_eq_true p;rw [k,m,n,o];rfl
 obtain ⟨l,h⟩:∃l,dd (eH S t.frm t.tos b.text)=77::l:=⟨_,rfl⟩;rw [h];unfold bL;simp only [if_true];rw [vY d h];simp [f]
end
def lQ (c:bT) (s:bA) (S:aa) (recs:List UInt8) (t:mN) (b:dV):bA×aa×List UInt8×List (List UInt8):=
 if b.bad then ({s with tx:=none},S,recs,[xH])
 else if c.size < (b.text.length:Int) then ({s with tx:=none},S,recs,[uG])
 else if oX c recs (eH S t.frm t.tos b.text) then ({s with tx:=none},S.plus (eH S t.frm t.tos b.text),recs++fi (dd (eH S t.frm t.tos b.text)),[[50,53,48,32,107,101,112,116,32]++Lib.itoa ((S.items.length:Int)+1)++[13,10]])
 else ({s with tx:=none},S,recs,[G6])
def dr (c:bT) (s:bA) (S:aa) (recs:List UInt8) (t:mN) (b:dV) (text:List UInt8) (bad:Bool):bA×aa×List UInt8×List (List UInt8):=
 if text=[46] then lQ c s S recs t b else ({s with tx:=some {t with body:=some (b.add text bad c.size)}},S,recs,[])
section
variable {A:Nat→Prop} {pp pb mb sb ch:Nat} {vw:Value} {q:Nat→Nat} {vr:Value} {S:aa} {recs:List UInt8} {w:World} {s:bA} {E:Nat→Prop} {c:bT}
theorem GV [Kn] (h:cC w A pp pb sb ch vw [] s) (r:fO E w pp c) (g:eJ w pb mb q vr S recs) (u:nM S recs) {t:mN} (v:s.tx=some t) (n:ug t) {b:dV} (j:t.body=some b) (i:∀k,A k→¬an w pb mb q vr S k) (p:∀k,E k→¬an w pb mb q vr S k) (l:∀k,E k→¬A k):
  Calls Tryz.prog 139 #[.pointer (some ⟨sb,0,none⟩)] w fun e o=>e= .returned (.tuple #[])∧fX A pp pb mb sb ch vw q vr S w (lQ c s S recs t b).1 (lQ c s S recs t b).2.1 (lQ c s S recs t b).2.2.1 (lQ c s S recs t b).2.2.2 o:=by
 unfold lQ
 cases d:b.bad with
 | true=>
  refine (GX h v j d).mono ?_;intro e o f;exact ⟨f.1,fX.step g i f⟩
 | false=>
  by_cases a:c.size < (b.text.length:Int)
  ·simp only [a,if_true];refine (Fg h r v j d a).mono ?_;intro e o f;exact ⟨f.1,fX.step g i f⟩
  ·simp only [a,if_false];have x:b.text.length≤1000:=by have:=(mu r.may).2.1;omega
   refine (Ff h r g v j d a (xL u n j) u.recs (FU u n j x) i p l).mono ?_;rintro e o ⟨rfl,f⟩;refine ⟨rfl,?_⟩
   cases m:oX c recs (eH S t.frm t.tos b.text) with
   | true=>rw [m] at f;exact f
   | false=>rw [m] at f;exact f
theorem DD [Kn] (h:cC w A pp pb sb ch vw [] s) (C:fO E w pp c) (j:eJ w pb mb q vr S recs) (l:nM S recs) {t:mN} (I:s.tx=some t) (x:ug t) {b:dV} (H:t.body=some b) (r:∀k,A k→¬an w pb mb q vr S k) (u:∀k,E k→¬an w pb mb q vr S k) (f:∀k,E k→¬A k) (i:Bool):
  Calls Tryz.prog 101 #[.pointer (some ⟨sb,0,none⟩),.agg #[.string (bs [46]),.bool i]] w fun e R=>e= .returned (.tuple #[])∧fX A pp pb mb sb ch vw q vr S w (lQ c s S recs t b).1 (lQ c s S recs t b).2.1 (lQ c s S recs t b).2.2.1 (lQ c s S recs t b).2.2.2 R:=by
 obtain ⟨n,p⟩:∃n:World,w.alloc (.cells #[.string (bs [46]),.bool i] 138)=n:=⟨_,rfl⟩;have m:Below w.heap.size w n:=by rw [←p];exact (Below.refl _ _).alloc (Nat.le_refl _) _
 have z:n.heap[w.heap.size]? =some (.cells #[.string (bs [46]),.bool i] 138 (0,0)):=by rw [←p];exact heap_alloc_new w _
 have T:n.cell? ⟨w.heap.size,0,none⟩=some (.string ⟨#[46]⟩):=by rw [Lib.cell_of_heap z];rfl
 have d:∀k,an n pb mb q vr S k→an w pb mb q vr S k:=fun k l=>l.imp (fun e=>cI j.inn m e) id;have G:=Lib.hid (GV (h.below m) (C.below m) (j.below m) l I x H (fun k a e=>r k a (d k e)) (fun k a e=>u k a (d k e)) f);have g:=Lib.hid m;have o:=Lib.hid d;clear h C j m z r u f d;go_enter Tryz.func101,Tryz.ntmps101;go_wp2_with fail
 refine G.out.mono ?_;rintro e U ⟨rfl,B⟩;have F:=Lib.hid B;clear B;go_wp2_with fail
 refine bodyPost_ret (v:= .tuple #[]) (by simp [results,Tryz.results101,go_sem]) rfl ?_;obtain ⟨D,Q,y,J,K,L,M,N,O,P⟩:=F.out;exact ⟨rfl,D,Q,y,J,K,L,fun k l=>(M k l).imp id (fun e=>Nat.le_trans g.out.size e),fun k l=>(N k l).imp (o.out k) (fun e=>Nat.le_trans g.out.size e),O,(aF.below g.out:aF _ _ _).trans P (fun k _ e=>e.imp id (o.out k))⟩
theorem Dz (h:cC w A pp pb sb ch vw [] s) (he:fO E w pp c) {t:mN} (ht:s.tx=some t) (b1:ug t) {b:dV} (hb:t.body=some b) (d:List UInt8) (i:Bool) (a9:d≠[46]) (b0:d.length≤1048576):
  Calls Tryz.prog 101 #[.pointer (some ⟨sb,0,none⟩),.agg #[.string (bs d),.bool i]] w (cG A pp pb sb ch vw w {s with tx:=some {t with body:=some (b.add d i c.size)}} []):=by
 obtain ⟨vx,h1,h2⟩:=h.ex;obtain ⟨vD,vN,vU,vW,hs,_⟩:=he.set;rw [ht] at h2;obtain ⟨K,vt,vb,rfl,ha,hT,hO,hB⟩:=h2;rw [hb] at hB;obtain ⟨l,G,rfl,V,N,U⟩:=hB;have b3:=(b1.body b hb).2;obtain ⟨f,O⟩:∃f:World,w.alloc (.cells #[.string (bs d),.bool i] 138)=f:=⟨_,rfl⟩;have H:Below w.heap.size w f:=by rw [←O];exact (Below.refl _ _).alloc (Nat.le_refl _) _
 have X0:f.heap[w.heap.size]? =some (.cells #[.string (bs d),.bool i] 138 (0,0)):=by rw [←O];exact heap_alloc_new w _
 have e0:f.cell? ⟨w.heap.size,0,none⟩=some (.string (bs d)):=by rw [Lib.cell_of_heap X0];rfl
 have e1:f.cell? ⟨w.heap.size,1,none⟩=some (.bool i):=by rw [Lib.cell_of_heap X0];rfl
 have c0:f.cell? ⟨sb,0,none⟩=some (.pointer (some ⟨pp,0,none⟩)):=(h1.below H).cell 0;have c8:f.cell? ⟨sb,8,none⟩=some (.pointer (some ⟨K,0,none⟩)):=(h1.below H).cell 8;have t2:f.cell? ⟨K,2,none⟩=some (.pointer (some ⟨l,0,none⟩)):=by rw [Lib.cell_of_heap (ae H hT.blk)];rfl
 have y5:f.cell? ⟨pp,5,none⟩=some (.int .i64 c.size):=(H.cell (by exact he.lt _ he.epp)).trans ((hs.cell 5 (by decide)).trans rfl);have HH:=Lib.hid h;have a8:((bs d).toList == [46])=false:=by rw [beq_eq_false_iff_ne,ByteArray.toList_eq,aQ];exact a9
 have Q:Hid (∀W:World,Below f.heap.size f W→Calls Tryz.prog 140 #[.pointer (some ⟨l,0,none⟩),.agg #[.string (bs d),.bool i],.int .i64 c.size] W fun e L=>e= .returned (.tuple #[])∧∃B,fV L l B (b.add d i c.size)∧aF (fun k=>k=l∨G.ownBlock=some k) W L∧∀k,B.ownBlock=some k→G.ownBlock=some k∨W.heap.size≤k):=Lib.hid (fun W a7=>yJ l G b d i c.size W (N.chg (A:=fun _=>False) (aF.below (H.trans (a7.mono H.size))) (fun e=>e) (fun _ _ e=>e)) (by omega) b0);have m:=Lib.hid H;have H1:=Lib.hid h1;have HT:=Lib.hid hT;have n:=Lib.hid N;have R:=Lib.hid U;have a4:=Lib.hid X0;have a3:Hid (∃D:Array Value,f.heap[pp]? =some (.cells D 88 (0,0))∧True):=Lib.hid (by obtain ⟨D,hD,_⟩:=hs.blk;exact ⟨D,ae H hD,trivial⟩);clear h h1 hT N hs he H X0 U;go_enter Tryz.func101,Tryz.ntmps101;go_wp2_with fail
 have B1:Below f.heap.size f f.drew:=(Below.refl _ _).drew;have a1:=Lib.hid (Q.out _ B1);have b2:=Lib.hid B1
 have M:Hid (∀W:World,aF (fun k=>k=l∨G.ownBlock=some k) f W→W.cell? ⟨w.heap.size,0,none⟩=some (.string (bs d))∧W.cell? ⟨w.heap.size,1,none⟩=some (.bool i)∧W.cell? ⟨sb,0,none⟩=some (.pointer (some ⟨pp,0,none⟩))∧W.cell? ⟨sb,8,none⟩=some (.pointer (some ⟨K,0,none⟩))∧W.cell? ⟨K,2,none⟩=some (.pointer (some ⟨l,0,none⟩))∧W.cell? ⟨pp,5,none⟩=some (.int .i64 c.size)):=Lib.hid (fun W hK=>by
  have P:∀{x o:Nat} {v:Value},f.cell? ⟨x,o,none⟩=some v→(∀C z,f.heap[x]? ≠some (.cells C 253 z))→(∀C z,f.heap[x]? ≠some (.cells C 5 z))→W.cell? ⟨x,o,none⟩=some v:=fun e n1 n2=>(World.cell?_of_block (hK.block _ (aA e) (fun j=>by
   rcases j with j | j
   ·subst j;exact n1 _ _ (ae m.out n.out.blk)
   ·obtain ⟨I,z,F⟩:=gi n.out.row j
    exact n2 _ _ (ae m.out F)))).trans e
  have p:∀{x:Nat} {C:Array Value} {t t':TypeId} {z:Nat×Nat},f.heap[x]? =some (.cells C t z)→t≠t'→∀C' z',f.heap[x]? ≠some (.cells C' t' z'):=fun e hn C' z' j=>by
   rw [e] at j;injection j with j;injection j with _ j _;exact hn j
  obtain ⟨D,hD,_⟩:=a3.out;have hx:=a4.out;have J:=ae m.out H1.out.blk;have a0:=ae m.out HT.out.blk
  exact ⟨P e0 (p hx (by decide)) (p hx (by decide)),P e1 (p hx (by decide)) (p hx (by decide)),P c0 (p J (by decide)) (p J (by decide)),P c8 (p J (by decide)) (p J (by decide)),P t2 (p a0 (by decide)) (p a0 (by decide)),P y5 (p hD (by decide)) (p hD (by decide))⟩)
 have C0:Hid (aF (fun k=>k=l∨G.ownBlock=some k) f f):=Lib.hid (aF.refl _ _);have C1:Hid (aF (fun k=>k=l∨G.ownBlock=some k) f f.drew):=Lib.hid (aF.below B1);clear B1 a8 O
 go_region_held3 (fun L=>L.cell? ⟨w.heap.size,0,none⟩=some (.string (bs d))∧L.cell? ⟨w.heap.size,1,none⟩=some (.bool i)∧L.cell? ⟨sb,0,none⟩=some (.pointer (some ⟨pp,0,none⟩))∧L.cell? ⟨sb,8,none⟩=some (.pointer (some ⟨K,0,none⟩))∧L.cell? ⟨K,2,none⟩=some (.pointer (some ⟨l,0,none⟩))∧L.cell? ⟨pp,5,none⟩=some (.int .i64 c.size))
  (first | exact M.out _ C5.out | exact M.out _ C1.out | exact M.out _ C0.out)
  (first
   | (go_at_call 140;refine a1.out.mono ?_;rintro e w5 ⟨rfl,B,p1,p2,p3⟩;have C5:Hid (aF (fun k=>k=l∨G.ownBlock=some k) f w5):=Lib.hid (C1.out.trans p2 (fun _ _ e=>e));have T:=Lib.hid p1;have a2:=Lib.hid p3;clear p1 p2 p3))
 go_wp2_with fail
 refine bodyPost_end (results_none rfl _ _ _) rfl ?_;have C6:aF (fun k=>k=l∨G.ownBlock=some k) w w5:=(aF.below m.out:aF _ _ _).trans C5.out (fun _ _ e=>e);have Z:∀k,(k=l∨G.ownBlock=some k)→A k:=fun k e=>e.elim (fun e=>by rw [e];exact V) (R.out k)
 have y:∀{k:Nat} {C:Array Value} {t:TypeId} {z:Nat×Nat},w.heap[k]? =some (.cells C t z)→t≠253→t≠5→¬(k=l∨G.ownBlock=some k):=fun e n1 n2 j=>by
  rcases j with j | j
  ·rw [j,n.out.blk] at e;injection e with e;injection e with _ e _;exact n1 e.symm
  ·obtain ⟨I,z,F⟩:=gi n.out.row j;rw [F] at e;injection e with e;injection e with _ e _;exact n2 e.symm
 obtain ⟨sq,r,X⟩:=H1.out.chan
 have a5:bP w5 sb ch (gT pp pb ch vw (.pointer (some ⟨K,0,none⟩)) s) []:=H1.out.chg C6 (y H1.out.blk (by decide) (by decide)) (fun e=>by
  rcases e with e | e
  ·have:=n.out.blk;rw [←e,X] at this;cases this
  ·obtain ⟨I,z,F⟩:=gi n.out.row e
   rw [X] at F;cases F)
 have a6:qP w5 K vt (.pointer (some ⟨l,0,none⟩)) t.frm t.tos:=HT.out.chg C6 (y HT.out.blk (by decide) (by decide)) (fun g Y=>by
  obtain ⟨I,F⟩:=cX HT.out.row Y
  exact y F (by decide) (by decide))
 refine ⟨rfl,fun k=>A k∨B.ownBlock=some k,⟨⟨_,a5,K,vt,_,rfl,.inl ha,a6,fun g Y=> .inl (hO g Y),l,B,rfl,.inl V,T.out,fun g Y=> .inr Y⟩,.inl HH.out.asb,.inl HH.out.ach,fun k u=>?_⟩,fun _ a=> .inl a,fun k u=>?_,C6.mono (fun k _ e=>Z k e)⟩
 ·rcases u with u | u
  ·exact Nat.lt_of_lt_of_le (HH.out.lt k u) C6.size
  ·obtain ⟨I,z,F⟩:=gi T.out.row u;exact ah F
 ·rcases u with u | u
  ·exact .inl u
  ·exact (a2.out k u).imp (R.out k) (fun e=>Nat.le_trans m.out.size e)
end
structure ft [Kn] (E:Nat→Prop) (pp pb mb sb ch bl:Nat) (c:bT) (w:World) (A:Nat→Prop) (q:Nat→Nat) (vr:Value) (S:aa) (recs:List UInt8) (vw v:Value) (acc:List UInt8) (ls:List (List UInt8)) (s:bA):Prop where
 env:fO E w pp c
 ses:cC w A pp pb sb ch vw ls s
 row:kP w vw s.wait
 bag:eJ w pb mb q vr S recs
 bld:jb 0 w bl v acc
 ea:∀k,E k→¬A k
 eb:∀k,E k→¬an w pb mb q vr S k
 ab:∀k,A k→¬an w pb mb q vr S k
 wd:∀g,vw.ownBlock=some g→¬E g∧¬A g∧¬an w pb mb q vr S g∧g≠bl∧v.ownBlock≠some g
 ld:¬E bl∧¬A bl∧¬an w pb mb q vr S bl
 vd:∀g,v.ownBlock=some g→¬E g∧¬A g∧¬an w pb mb q vr S g
section
variable {E:Nat→Prop} {pp pb mb sb ch bl:Nat} {c:bT} {w w':World} {A A':Nat→Prop} {q q':Nat→Nat} {vr vr':Value} {S S':aa} {recs recs':List UInt8} {vw vw' v v':Value} {acc acc':List UInt8} {ls ls':List (List UInt8)} {s s':bA}
theorem ft.rowLt [Kn] (h:ft E pp pb mb sb ch bl c w A q vr S recs vw v acc ls s) {g:Nat} (d:vw.ownBlock=some g):g < w.heap.size:=by
 obtain ⟨a,b⟩:=cX h.row d;exact ah b
theorem ft.blLt [Kn] (h:ft E pp pb mb sb ch bl c w A q vr S recs vw v acc ls s):bl < w.heap.size:=by
 obtain ⟨p,_,a⟩:=h.bld.blk;exact ah a
theorem ft.vLt [Kn] (h:ft E pp pb mb sb ch bl c w A q vr S recs vw v acc ls s) {g:Nat} (d:v.ownBlock=some g):g < w.heap.size:=by
 obtain ⟨a,z,b⟩:=gi h.bld.row d;exact ah b
def sH (w:World) (pb mb bl:Nat) (A:Nat→Prop) (q:Nat→Nat) (vr:Value) (S:aa) (vw v:Value) (k:Nat):Prop:=A k∨an w pb mb q vr S k∨k=bl∨v.ownBlock=some k∨vw.ownBlock=some k
theorem jI {B:Nat→Prop} (h:jb 0 w bl v acc) (a:aF B w w') (b:¬B bl) (d:∀g,v.ownBlock=some g→¬B g):jb 0 w' bl v acc:=by
 obtain ⟨p,f,e⟩:=h.blk;exact ⟨⟨p,f,a.some_ e b⟩,zW h.row a d,h.far⟩
theorem ft.line [Kn] (h:ft E pp pb mb sb ch bl c w A q vr S recs vw v acc ls s) (l:fX A pp pb mb sb ch vw q vr S w s' S' recs' ls' w') (m:s'.wait=s.wait):∃A' q' vr',ft E pp pb mb sb ch bl c w' A' q' vr' S' recs' vw v acc ls' s'∧(∀k,A' k→A k∨w.heap.size≤k)∧(∀k,an w' pb mb q' vr' S' k→an w pb mb q vr S k∨w.heap.size≤k)∧aF (fun k=>A k∨an w pb mb q vr S k) w w':=by
 obtain ⟨A',q',vr',p,r,y,f,i,t,d⟩:=l;have j:∀k,E k→¬(A k∨an w pb mb q vr S k):=fun k e x=>x.elim (h.ea k e) (h.eb k e);have b:∀{k:Nat},k < w.heap.size→¬A k→¬an w pb mb q vr S k→¬A' k∧¬an w' pb mb q' vr' S' k:=fun u n o=>⟨fun e=>(f _ e).elim n (fun e=>by omega),fun e=>(i _ e).elim o (fun e=>by omega)⟩;refine ⟨A',q',vr',⟨h.env.chg d j,p,?_,r,?_,?_,?_,t,?_,?_,?_⟩,f,i,d⟩
 ·rw [m];exact br h.row d (fun g a e=>e.elim (h.wd g a).2.1 (h.wd g a).2.2.1)
 ·exact jI h.bld d (fun e=>e.elim h.ld.2.1 h.ld.2.2) (fun g a e=>e.elim (h.vd g a).2.1 (h.vd g a).2.2)
 ·exact fun k e=>(b (h.env.lt k e) (h.ea k e) (h.eb k e)).1
 ·exact fun k e=>(b (h.env.lt k e) (h.ea k e) (h.eb k e)).2
 ·intro g a;have:=b (h.rowLt a) (h.wd g a).2.1 (h.wd g a).2.2.1;exact ⟨(h.wd g a).1,this.1,this.2,(h.wd g a).2.2.2⟩
 ·have:=b h.blLt h.ld.2.1 h.ld.2.2;exact ⟨h.ld.1,this.1,this.2⟩
 ·intro g a;have:=b (h.vLt a) (h.vd g a).2.1 (h.vd g a).2.2;exact ⟨(h.vd g a).1,this.1,this.2⟩
theorem ft.below [Kn] (h:ft E pp pb mb sb ch bl c w A q vr S recs vw v acc ls s) (d:Below w.heap.size w w'):ft E pp pb mb sb ch bl c w' A q vr S recs vw v acc ls s:=by
 have f:aF (fun _=>False) w w':=aF.below d;obtain ⟨i,b⟩:=h.bag.chg f (fun _ _ e=>e);exact ⟨h.env.below d,h.ses.below d,br h.row f (fun _ _ e=>e),i,jI h.bld f (fun e=>e) (fun _ _ e=>e),h.ea,fun k e x=>h.eb k e (b k x),fun k e x=>h.ab k e (b k x),fun g a=>⟨(h.wd g a).1,(h.wd g a).2.1,fun x=>(h.wd g a).2.2.1 (b g x),(h.wd g a).2.2.2⟩,⟨h.ld.1,h.ld.2.1,fun x=>h.ld.2.2 (b _ x)⟩,fun g a=>⟨(h.vd g a).1,(h.vd g a).2.1,fun x=>(h.vd g a).2.2 (b g x)⟩⟩
theorem ft.cut [Kn] (h:ft E pp pb mb sb ch bl c w A q vr S recs vw v acc ls s) {C:Array Value} {y:List UInt8} {j:Value} (I:C=gT pp pb ch vw j s) (n:bP w sb ch (gT pp pb ch vw j s) ls) (M:nk w A j s.tx) (K:nL sb C vw y w w'):∃vw',ft E pp pb mb sb ch bl c w' A q vr S recs vw' v acc ls {s with wait:=y}∧aF (fun k=>k=sb∨vw.ownBlock=some k) w w'∧(∀g,vw'.ownBlock=some g→vw.ownBlock=some g∨w.heap.size≤g)∧∀k,an w' pb mb q vr S k→an w pb mb q vr S k:=by
 obtain ⟨vw',m,f,B⟩:=K;subst I;have H:∀k,E k→¬(k=sb∨vw.ownBlock=some k):=fun k e x=>x.elim (fun a=>h.ea k e (by rw [a];exact h.ses.asb)) (fun a=>(h.wd k a).1 e);have G:∀k,an w pb mb q vr S k→¬(k=sb∨vw.ownBlock=some k):=fun k e x=>x.elim (fun a=>h.ab k (by rw [a];exact h.ses.asb) e) (fun a=>(h.wd k a).2.2.1 e);obtain ⟨F,i⟩:=h.bag.chg f G;have d:∀g,vw'.ownBlock=some g→vw.ownBlock=some g∨w.heap.size≤g:=B;obtain ⟨N,r,p⟩:=n.chan;have l:¬(ch=sb∨vw.ownBlock=some ch):=fun x=>x.elim (fun e=>n.ne e.symm) (fun e=>(h.wd ch e).2.1 h.ses.ach);have o:bP w' sb ch (gT pp pb ch vw' j {s with wait:=y}) ls:=⟨m.blk,m.size,rfl,N,r,f.some_ p l⟩;have u:nk w' A j s.tx:=M.off f (fun k C t z D e L x=>x.elim (fun a=>rI n k C t z e L (.inl a)) (fun a=>(h.wd k a).2.1 D));refine ⟨vw',⟨h.env.chg f H,⟨⟨j,o,u⟩,h.ses.asb,h.ses.ach,fun k J=>Nat.lt_of_lt_of_le (h.ses.lt k J) f.size⟩,m.row,F,jI h.bld f (fun x=>x.elim (fun e=>h.ld.2.1 (by rw [e];exact h.ses.asb)) (fun e=>(h.wd bl e).2.2.2.1 rfl)) (fun g b x=>x.elim (fun e=>(h.vd g b).2.1 (by rw [e];exact h.ses.asb)) (fun e=>(h.wd g e).2.2.2.2 b)),h.ea,fun k e x=>h.eb k e (i k x),fun k e x=>h.ab k e (i k x),fun g b=>?_,⟨h.ld.1,h.ld.2.1,fun x=>h.ld.2.2 (i _ x)⟩,fun g b=>⟨(h.vd g b).1,(h.vd g b).2.1,fun x=>(h.vd g b).2.2 (i g x)⟩⟩,f,d,i⟩
 rcases d g b with e | e
 ·exact ⟨(h.wd g e).1,(h.wd g e).2.1,fun x=>(h.wd g e).2.2.1 (i g x),(h.wd g e).2.2.2⟩
 ·exact ⟨fun x=>by have:=h.env.lt g x;omega,fun x=>by have:=h.ses.lt g x;omega,fun x=>by have:=an.lt h.bag (i g x);omega,fun x=>by have:=h.blLt;omega,fun x=>by have:=h.vLt x;omega⟩
theorem ft.told [Kn] (h:ft E pp pb mb sb ch bl c w A q vr S recs vw v acc ls s) {y r:Nat} (f:aF (fun k=>k=ch∨k=bl∨v.ownBlock=some k) w w') (u:∀g,v'.ownBlock=some g→v.ownBlock=some g∨w.heap.size≤g) (I:jb 0 w' bl v' acc') (l:w'.heap[ch]? =some (.chan 3 #[] false y r false)):ft E pp pb mb sb ch bl c w' A q vr S recs vw v' acc' [] s∧∀k,an w' pb mb q vr S k→an w pb mb q vr S k:=by
 obtain ⟨o,i,L⟩:=h.ses.ex
 have G:∀k,E k→¬(k=ch∨k=bl∨v.ownBlock=some k):=fun k e x=>by
  rcases x with x | x | x
  ·exact h.ea k e (by rw [x];exact h.ses.ach)
  ·exact h.ld.1 (by rw [←x];exact e)
  ·exact (h.vd k x).1 e
 have F:∀k,an w pb mb q vr S k→¬(k=ch∨k=bl∨v.ownBlock=some k):=fun k e x=>by
  rcases x with x | x | x
  ·exact h.ab k (by rw [x];exact h.ses.ach) e
  ·exact h.ld.2.2 (by rw [←x];exact e)
  ·exact (h.vd k x).2.2 e
 obtain ⟨D,d⟩:=h.bag.chg f F
 have p:∀k,A k→k≠ch→¬(k=ch∨k=bl∨v.ownBlock=some k):=fun k a n x=>by
  rcases x with x | x | x
  ·exact n x
  ·exact h.ld.2.1 (by rw [←x];exact a)
  ·exact (h.vd k x).2.1 a
 have j:bP w' sb ch (gT pp pb ch vw o s) []:=⟨f.some_ i.blk (p sb h.ses.asb i.ne),i.size,i.told,y,r,l⟩;have m:nk w' A o s.tx:=L.off f (fun k C t z B e K=>p k B (fun H=>rI i k C t z e K (.inr H)));refine ⟨⟨h.env.chg f G,⟨⟨o,j,m⟩,h.ses.asb,h.ses.ach,fun k J=>Nat.lt_of_lt_of_le (h.ses.lt k J) f.size⟩,br h.row f (fun g b x=>?_),D,I,h.ea,fun k e x=>h.eb k e (d k x),fun k e x=>h.ab k e (d k x),fun g b=>⟨(h.wd g b).1,(h.wd g b).2.1,fun x=>(h.wd g b).2.2.1 (d g x),(h.wd g b).2.2.2.1,fun x=>?_⟩,⟨h.ld.1,h.ld.2.1,fun x=>h.ld.2.2 (d _ x)⟩,fun g b=>?_⟩,d⟩
 ·rcases x with x | x | x
  ·exact (h.wd g b).2.1 (by rw [x];exact h.ses.ach)
  ·exact (h.wd g b).2.2.2.1 x
  ·exact (h.wd g b).2.2.2.2 x
 ·rcases u g x with e | e
  ·exact (h.wd g b).2.2.2.2 e
  ·have:=h.rowLt b;omega
 ·rcases u g b with e | e
  ·exact ⟨(h.vd g e).1,(h.vd g e).2.1,fun x=>(h.vd g e).2.2 (d g x)⟩
  ·exact ⟨fun x=>by have:=h.env.lt g x;omega,fun x=>by have:=h.ses.lt g x;omega,fun x=>by have:=an.lt h.bag (d g x);omega⟩
end
end Go.Proofs.YtofpegbpgkkgkaaGreatDoor
