import Derived.Test.YtofpegbpgkkgkaaGreatDoorS15
import Derived.Test.YtofpegbpgkkgkaaGreatDoorS21
import Derived.Test.YtofpegbpgkkgkaaGreatDoorS23
namespace Go.Proofs.YtofpegbpgkkgkaaGreatDoor
set_option maxHeartbeats 8000000
set_option maxRecDepth 1000000
open Go.RowKit
open Go.Lib (bytesWorld bytesWorld_size bytesWorld_at_old bytesWorld_cell)
def kl (w:World) (v:Value) (l:List UInt8):Prop:=∃g cap cur z,v= .slice (some ⟨g,0,none⟩) l.length cap∧w.heap[g]? =some (.cells cur 5 z)∧(∀j,j < l.length→w.cell? ⟨g,j,none⟩=some (.int .u8 (l.getD j 0).toNat))∧cap≤z.1∧l.length≤cap∧cap≤maxLen∧cur.size=cap∧cur.toList.take l.length=Lib.byteCells l
theorem kl.moves {w f:World} {v:Value} {l:List UInt8} (h:kl w v l) (m:∀(g:Nat) (a:Array Value) (z:Nat×Nat),w.heap[g]? =some (.cells a 5 z)→f.heap[g]? =some (.cells a 5 z)):kl f v l:=by
 obtain ⟨g,c,a,z,e,d,i,n⟩:=h;have b:=m g a z d;exact ⟨g,c,a,z,e,b,fun j k=>(World.cell?_of_block (w:=w) (b.trans d.symm)).trans (i j k),n⟩
theorem kl.keep {w a:World} {v:Value} {l:List UInt8} (h:kl w v l) (b:Below w.heap.size w a):kl a v l:=h.moves fun _ _ _ e=>ae b e
theorem bh.nil {w:World}:bh w.heap.size ((w.alloc (.map #[] 0)).alloc (.cells #[.slice none 0 0,.int .i64 0,.int .i64 0,.map (some w.heap.size)] 117)) (w.heap.size+1) w.heap.size (fun _=>0) (.slice none 0 0) ⟨[],0⟩:=by
 have b:((w.alloc (.map #[] 0)).alloc (.cells #[.slice none 0 0,.int .i64 0,.int .i64 0,.map (some w.heap.size)] 117)).heap[w.heap.size+1]? =some (.cells #[.slice none 0 0,.int .i64 0,.int .i64 0,.map (some w.heap.size)] 117 (0,0)):=by
  have:=heap_alloc_new (w.alloc (.map #[] 0)) (.cells #[.slice none 0 0,.int .i64 0,.int .i64 0,.map (some w.heap.size)] 117);simpa using this
 refine ⟨b,?_,by omega,Nat.le_refl _,fun i a=>?_,fun i a=>?_⟩
 ·exact ae ((Below.refl _ _).alloc (Nat.le_refl _) _) (heap_alloc_new w (.map #[] 0))
 ·have:=bq a;simp at this
 ·have:=bq a;simp at this
theorem mO {W:World} {e:TypeId} {x:ByteArray}:Below W.heap.size W (bytesWorld W e x):=
 ⟨by simp [bytesWorld,World.freeze,World.alloc,World.drew, -World.alloc_eq, -World.drew_eq],by simp [bytesWorld,World.freeze,World.alloc,World.drew, -World.alloc_eq, -World.drew_eq],by simp [bytesWorld,World.freeze,World.alloc,World.drew, -World.alloc_eq, -World.drew_eq],by rw [bytesWorld_size];omega,fun k a=>bytesWorld_at_old W e x k a⟩
theorem pt (W:World) (e:TypeId) (x:ByteArray):(Lib.bytesCells W e x).size=grownCap W x.size 0 e:=by
 have:=grownCap_ge W x.size 0 e;simp only [Lib.bytesCells,Array.size_append,Array.size_map,Array.size_replicate];have a:x.data.size=x.size:=rfl;omega
theorem sr (W:World) (e:TypeId) (l:List UInt8):(Lib.bytesCells W e (bs l)).toList.take l.length=Lib.byteCells l:=by
 have a:(bs l).data.toList=l:=aI l;simp only [Lib.bytesCells,Array.toList_append,Array.toList_map,a,Lib.byteCells];rw [List.take_append_of_le_length (by simp),List.take_of_length_le (by simp)]
theorem Bx {s b g k:Nat} {q:Nat→Nat} {p:Value} {S:bp} {w W:World} {l:List UInt8} (h:bh s W b g q p S) (m:Below s w W):
  let v:=Value.slice (some ⟨W.heap.size,0,none⟩) (bs (l.take k)).size (grownCap W (bs (l.take k)).size 0 5)
  let a:=(bytesWorld W 5 (bs (l.take k))).setCell ⟨b,0,none⟩ v
  (l.take k).length≤maxLen→bh s a b g q v S∧kl a v (l.take k)∧Below s w a:=by
 intro v a d;have f:=h.keep (mO (e:=5) (x:=bs (l.take k)));have c:aL b (bytesWorld W 5 (bs (l.take k))) a:=(aL.refl _ _).setCell _;have o:=h.pblt;refine ⟨f.timed (T:=S.time) c (heap_setCell_same _ b 0 _ _ v f.bag),⟨W.heap.size,_,_,_,by rw [←aG],aP c (Lib.bytesWorld_at_new W 5 _) (by omega),fun j n=>?_,?_,?_,?_,?_,?_⟩,?_⟩
 ·have i:a.cell? ⟨W.heap.size,j,none⟩=(bytesWorld W 5 (bs (l.take k))).cell? ⟨W.heap.size,j,none⟩:=World.cell?_of_block (c.2 W.heap.size (by omega));rw [i,bytesWorld_cell _ _ _ _ (by rw [aG];exact n),aI]
 ·show _≤(Lib.bytesCells W 5 (bs (l.take k))).size;rw [pt];exact Nat.le_refl _
 ·rw [←aG];exact grownCap_ge _ _ _ _
 ·exact grownCap_le_maxLen _ _ _ _ (by rw [aG];exact d)
 ·exact pt _ _ _
 ·exact sr _ _ _
 ·exact (m.trans (mO.mono h.le)).trans (c.below h.pbb)
theorem xA {l:List UInt8} {c:List UInt8×List UInt8} (h:ji l=some c):c.2=l.drop (8+c.1.length):=by
 rw [pI] at h
 split at h
 ·cases h
 ·rename_i b
  cases h
  have a:((l.drop 8).take (be (l.take 4))).length=be (l.take 4):=by rw [List.length_take,List.length_drop];omega
  simp only;rw [a,List.drop_drop]
theorem Ab (l:List UInt8) (n:Int) (w:World) (hl:l.length≤536870912) (hm:w.cell? ⟨0,0,none⟩=some (.int .i64 n)):
  Calls Tryz.prog 44 #[.string (bs l)] w fun e E=>∃pb mb q vr,e= .returned (.pointer (some ⟨pb,0,none⟩))∧bh w.heap.size E pb mb q vr (bw l).1∧(bw l).1.Ok∧kl E vr (l.take (bw l).2)∧(∀g,vr.ownBlock=some g→w.heap.size≤g)∧Below w.heap.size w E:=by
 obtain ⟨X,j⟩:∃X:World,(w.alloc (.map #[] 0)).alloc (.cells #[.slice none 0 0,.int .i64 0,.int .i64 0,.map (some w.heap.size)] 117)=X:=⟨_,rfl⟩;have I:Hid (bh w.heap.size X (w.heap.size+1) w.heap.size (fun _=>0) (.slice none 0 0) ⟨[],0⟩):=Lib.hid (by rw [←j];exact bh.nil);have H:Hid (Below w.heap.size w X):=Lib.hid (by rw [←j];exact ((Below.refl _ _).alloc (Nat.le_refl _) _).alloc (by simp) _);have sl:=aG l;have a6:=Lib.hid j;have HM:=Lib.hid hm;have b2:=@run_makeMap Tryz.prog;have b1:∀(W:World) (x:ByteArray),(convert 9 114 (.string x)).run Tryz.prog W= .ok (.slice (some ⟨W.heap.size,0,none⟩) x.size (grownCap W x.size 0 5)) (bytesWorld W 5 x):=fun W x=>Lib.run_convert_string_bytes W _ _ _ x Tryz.underlying9 Tryz.underlying114 Tryz.underlying5;clear j hm;go_enter Tryz.func44,Tryz.ntmps44;go_wp2_with fail
 rw [a6.out];go_loopw [4] (fun v E=>∃(k f:Nat) (S:bp) (q:Nat→Nat),v= .int .i64 k∧k≤l.length∧8 * S.items.length≤k∧Hid (l.length+1≤k+f)∧Hid (S.time≤1000000000)∧Hid S.Ok∧Hid (bh w.heap.size E (w.heap.size+1) w.heap.size q (.slice none 0 0) S)∧Hid (Below w.heap.size w E)∧Hid (bw l=dz f S k (l.drop k))) (fun v _=>l.length - (intOf v).toNat)
 case atStart=>exact ⟨0,l.length+1,⟨[],0⟩,_,rfl,Nat.zero_le _,by simp,Lib.hid (by omega),Lib.hid (by simp),Lib.hid (bp.Ok.nil 0),I,H,Lib.hid rfl⟩
 case round=>
  clear I H;obtain ⟨k,f,S,q,rfl,hk,hS,HF,HT,HO,HS,HB,V⟩:=hrel;obtain ⟨f,rfl⟩:∃g,f=g+1:=⟨f - 1,by have:=HF.out;omega⟩
  obtain ⟨R,M⟩:∃R,l.drop k=R:=⟨_,rfl⟩;have b0:R.length=l.length - k:=by rw [←M,List.length_drop]
  rw [M] at V;have a0:=Lib.hid M;have a1:Hid ((bs l).extract k l.length=bs R):=Lib.hid (by rw [fW,List.take_length,M]);clear M;go_wp2_with fail
  rw [a1.out];refine (Dy R wr (by unfold maxLen;omega)).mono ?_;rintro e Q ⟨rfl,P⟩;have A:Below wr.heap.size wr Q:=P.toBelow (Nat.le_refl _);have T:=Lib.hid (HS.out.keep A);have U:=Lib.hid (HB.out.trans (A.mono HS.out.le));clear P A
  have d:Hid (∀(W:World) (Z:Nat→Nat),bh w.heap.size W (w.heap.size+1) w.heap.size Z (.slice none 0 0) S→∀x:ByteArray,(bytesWorld W 5 x).cell? ⟨w.heap.size+1,0,none⟩=some (.slice none 0 0)∧(bytesWorld W 5 x).frozen? ⟨w.heap.size+1,0,none⟩=false):=Lib.hid (fun W Z i x=>by
   have:=(i.keep (mO (e:=5) (x:=x))).bag
   exact ⟨by rw [Lib.cell_of_heap this];rfl,Lib.frozen_of_heap this 0⟩)
  have J:Hid ((bs l).extract 0 k=bs (l.take k)):=Lib.hid (by rw [fW,List.drop_zero]);have sk:(bs (l.take k)).size=k:=by rw [aG,List.length_take];omega
  cases B:ji R with
  | none=>
   have a:=Lib.hid (V.out.trans (gP B));have g0:=fun x=>(d.out Q q T.out x).1;have g1:=fun x=>(d.out Q q T.out x).2;clear B;simp only [mI];go_wp2_with fail
   rw [J.out];obtain ⟨t,u,y⟩:=Bx (l:=l) (k:=k) T.out U.out (by rw [List.length_take];unfold maxLen;omega);have p:=U.out;rw [sk] at t u y;refine (np _ _ _ _ _ _ _ t).mono ?_;rintro e w9 ⟨rfl,F,L,G⟩;have o:=Lib.hid F;have r:=Lib.hid (u.moves fun g a7 z e=>L.cells e (by decide));have s:=Lib.hid (y.trans G);clear F L G t u y;go_wp2_with fail
   go_ret;exact ⟨w.heap.size+1,w.heap.size,q,_,rfl,by rw [a.out];exact o.out,by rw [a.out];exact HO.out,by rw [a.out];exact r.out,fun g e=>(by injection e with e;simp only at e;rw [←e];exact p.size),s.out⟩
  | some c=>
   have a8:=ku B;obtain ⟨b,c2⟩:=c;simp only at a8;have O:Q.cell? ⟨0,0,none⟩=some (.int .i64 n):=(U.out.cell (by exact eI HM.out)).trans HM.out;have a5:=Lib.hid (Ac w.heap.size (w.heap.size+1) w.heap.size q (.slice none 0 0) S b n Q T.out HO.out (by omega) O (by omega));have a2:Hid (S.takes b=none→bw l=(S,k)):=Lib.hid (fun Y=>V.out.trans (jf B Y))
   have K:Hid (∀h,S.takes b=some h→bw l=dz f h (k+8+b.length) (l.drop (k+8+b.length))∧8 * h.items.length≤k+8+b.length∧h.time≤1000000000):=Lib.hid (fun h Y=>by
    have hz:=rY Y HT.out;refine ⟨?_,by omega,hz.2⟩
    rw [V.out,fP B Y]
    rw [show l.drop (k+8+b.length)=c2 by
     have e9:=xA B;simp only at e9;rw [e9,←a0.out,List.drop_drop]
     congr 1;omega])
   have s1:=aG b;have s2:=aG c2;clear B O;simp only [mI];go_wp2_with fail
   refine a5.out.mono ?_;intro e w2 C;obtain ⟨hT,m⟩:=C;unfold mL at hT;obtain ⟨a9,N⟩:=hT;have B2:=Lib.hid (U.out.trans N);have a4:=Lib.hid m;clear N m
   rcases a9 with ⟨D,rfl,i⟩ | ⟨h,Z,D,rfl,i⟩
   ·have a:=Lib.hid (a2.out D);have g0:=fun x=>(d.out w2 q i x).1;have g1:=fun x=>(d.out w2 q i x).2;have A2:=Lib.hid i;clear D i;go_wp2_with fail
    rw [J.out];obtain ⟨t,u,y⟩:=Bx (l:=l) (k:=k) A2.out B2.out (by rw [List.length_take];unfold maxLen;omega);have p:=B2.out;rw [sk] at t u y;refine (np _ _ _ _ _ _ _ t).mono ?_;rintro e w9 ⟨rfl,F,L,G⟩;have o:=Lib.hid F;have r:=Lib.hid (u.moves fun g a7 z e=>L.cells e (by decide));have s:=Lib.hid (y.trans G);clear F L G t u y;go_wp2_with fail
    go_ret;exact ⟨w.heap.size+1,w.heap.size,q,_,rfl,by rw [a.out];exact o.out,by rw [a.out];exact HO.out,by rw [a.out];exact r.out,fun g e=>(by injection e with e;simp only at e;rw [←e];exact p.size),s.out⟩
   ·have a:=Lib.hid (K.out h D);have a3:=Lib.hid (a4.out h D);have A2:=Lib.hid i;have b3:IntKind.i64.wrap ((l.length:Int) - (c2.length:Int))=((k+8+b.length:Nat):Int):=by rw [IntKind.wrap_i64];omega
    clear D i;go_wp2_with fail
    exact ⟨⟨k+8+b.length,f,h,Z,rfl,by omega,a.out.2.1,Lib.hid (by have:=HF.out;omega),Lib.hid a.out.2.2,a3,A2,B2,Lib.hid a.out.1⟩,by simp only [intOf];omega⟩
theorem vO (a g k:Nat) (q:Nat→Nat) (u i:Value) (S:bp) (b:Nat) (c:List Nat) (w:World) (h:bh a w g k q u S) (s:S.Ok) (G:bg w i c.length 1 (aZ c)) (E:b≤4294967295) (T:1≤c.length) (t:c.length≤255) (U:S.items.length≤4294967295) (F:bt S b c=true):
  Calls Tryz.prog 117 #[.pointer (some ⟨g,0,none⟩),.agg #[.int .i64 b,i]] w fun e H=>e= .returned (.bool true)∧bh a H g k q u (S.outs (b - 1) c)∧eZ g k q q S (S.outs (b - 1) c) w H∧lq w H q (S.outs (b - 1) c).live:=by
 obtain ⟨j,f⟩:∃j:World,w.alloc (.cells #[.int .i64 b,i] 193)=j:=⟨_,rfl⟩;have l:Below w.heap.size w j:=by rw [←f];exact (Below.refl _ _).alloc (Nat.le_refl _) _
 have v:bh a j g k q u S:=h.keep l;have Q:j.heap[w.heap.size]? =some (.cells #[.int .i64 b,i] 193 (0,0)):=by rw [←f];exact heap_alloc_new w _
 have O:=Lib.hid (j8 a g k q u i S b c j v s (G.below l) E T t U);rw [F] at O;have V:=Lib.hid h;have x:=Lib.hid v;have m:=Lib.hid l;have B:=Lib.hid f;have C:=Lib.hid Q;have A:=Lib.hid (G.below l);rw [db T,Bool.and_eq_true,decide_eq_true_eq] at F;obtain ⟨⟨D,p⟩,_⟩:=F;have n:=Lib.hid p;have r:((b - 1:Nat):Int)+1=(b:Int):=by omega
 have z:=Lib.hid r;clear v l f Q G h D p r;go_enter Tryz.func117,Tryz.ntmps117;go_wp2_with fail
 rw [B.out];refine O.out.mono ?_;rintro e I ⟨rfl,d⟩;have J:=ae d C.out;have Y:I.cell? ⟨w.heap.size,0,none⟩=some (.int .i64 b):=by rw [Lib.cell_of_heap J];rfl
 have Z:I.cell? ⟨w.heap.size,1,none⟩=some i:=by rw [Lib.cell_of_heap J];rfl
 have K:=Lib.hid (x.out.keep d);have M:=Lib.hid (m.out.trans (d.mono m.out.size));have N:=Lib.hid (mM a g k q u i S (b - 1) c I K.out s (A.out.below d) n.out t U);rw [z.out] at N;clear J d;go_wp2_with fail
 refine N.out.mono ?_;rintro e X ⟨W,rfl,_,L,P,R⟩;have o:=Lib.hid (uC K.out n.out P R (ps:=c));have y:=Lib.hid L;clear L P R;go_wp2_with fail
 go_ret;exact ⟨rfl,y.out,eZ.after V.out M.out o.out.1,lq.after M.out o.out.2⟩
theorem j7 {c:Nat} {a:List Nat} (e:c≤4294967295) (d:1≤a.length) (h:a.length≤100) (b:∀x∈a,x≤255) (f:bF a=true):dq (aM c a)=some (c,a):=by
 unfold dq;rw [xS (by omega) (by omega) (fun x g=>by have:=b x g;omega)];simp [d,f]
theorem tJ (b z C:Nat) (q:Nat→Nat) (E:Value) (S:bp) (c T:Nat) (a:List Nat) (n:Int) (w:World) (h:bh b w z C q E S) (M:S.Ok) (Z:w.cell? ⟨0,0,none⟩=some (.int .i64 n)) (hn:S.items.length < 4294967295) (u:c≤4294967295) (J:1≤a.length) (N:a.length≤100) (y:∀x∈a,x≤255) (d:bF a=true) (j:bt S c a=true):
  Calls Tryz.prog 75 #[.pointer (some ⟨z,0,none⟩),.string (bs (71::aM c a))] w (fR b z C q E S (S.outs (c - 1) a) T w):=by
 have L:(71::aM c a).length≤536870912:=by
  unfold aM;simp only [List.length_cons,List.length_append,bf,jd];omega
 have s:bP (71::aM c a)=none:=by simp [bP]
 have r:dh (71::aM c a)=some (c,a):=by
  show (if (71:UInt8)=71 then dq (aM c a) else none)=_;rw [if_pos rfl];exact j7 u J N y d
 obtain ⟨l,V⟩:∃l,71::aM c a=l:=⟨_,rfl⟩;rw [V] at L s r ⊢;have R:=Lib.hid h;have HM:=Lib.hid (ka l n w L Z);have H:=Lib.hid s;have t:=Lib.hid r;have f:=Lib.hid j;clear h Z s r V y d j;go_enter Tryz.func75,Tryz.ntmps75;go_wp2_with fail
 refine HM.out.mono ?_;rintro e w1 ⟨p,m⟩;have A1:=Lib.hid (R.out.keep m);have F:=Lib.hid m;clear m
 rcases p with ⟨_,rfl⟩ | ⟨mm,v,d,_⟩
 case inr=>rw [H.out] at d;cases d
 simp only [aY,lf];go_wp2_with fail
 refine (ma l _ L).mono ?_;rintro e P ⟨p,o⟩;have A3:=Lib.hid ((A1.out.keep ((Below.refl _ _).alloc (Nat.le_refl _) _)).keep o);have Q:=Lib.hid ((F.out.alloc F.out.size _).trans (o.mono (Nat.le_trans F.out.size (by simp))));clear o
 rcases p with ⟨d,rfl⟩ | ⟨a1,a2,v,d,rfl,O,_,_,_,_⟩
 ·rw [t.out] at d;cases d
 rw [t.out] at d;obtain ⟨rfl,rfl⟩:=Prod.mk.inj (Option.some.inj d);obtain ⟨av,nv,cv,rfl⟩:=kj O;obtain ⟨B,k⟩:∃B:World,P.alloc (.cells #[.int .i64 c,.slice av nv cv] 193)=B:=⟨_,rfl⟩;have A:Below P.heap.size P B:=by rw [←k];exact (Below.refl _ _).alloc (Nat.le_refl _) _
 have HT:=Lib.hid (vO b z C q E _ S c a B (A3.out.keep A) M (aF (ep O fun g a0 e _=>ae A e)) u J (by omega) (by omega) f.out);have G:=Lib.hid (Q.out.trans (A.mono Q.out.size))
 have U:Hid (∀i∈(S.outs (c - 1) a).live,i∈S.live):=Lib.hid (fun i K=>by
  have hq:=f.out;rw [db J,Bool.and_eq_true,decide_eq_true_eq] at hq
  exact gS hq.1.2 K)
 have I:=Lib.hid k;clear d A k O;go_wp2_with fail
 rw [I.out];refine HT.out.mono ?_;rintro e w7 ⟨rfl,W,X,Y⟩;have HP:Hid (fR b z C q E S (S.outs (c - 1) a) T w (.returned (.bool true)) w7):=Lib.hid (fR.after R.out G.out ⟨rfl,q,W,X,fun D hd=>(Y.due U.out hd).new (fun i K=>bq (U.out i K))⟩);clear W X Y;go_wp2_with fail
 go_ret;exact HP.out
theorem tH (f D I:Nat) (q:Nat→Nat) (J:Value) (S F:bp) (d T:Nat) (b:List Nat) (n:Int) (w:World) (h:bh f w D I q J S) (V:S.Ok) (hm:w.cell? ⟨0,0,none⟩=some (.int .i64 n)) (hn:S.items.length < 4294967295) (A:d≤4294967295) (h1:1≤b.length) (W:b.length≤100) (B:∀x∈b,x≤255) (c:bF b=true) (j:bt S d b=true) (hT:T≤1000000000) (U:S.time≤T) (hS:S.takesF T d b=some F):
  Calls Tryz.prog 75 #[.pointer (some ⟨D,0,none⟩),.string (bs (70::(az 4 T++aM d b)))] w (fR f D I q J S F T w):=by
 have H:(70::(az 4 T++aM d b)).length≤536870912:=by
  unfold aM;simp only [List.length_cons,List.length_append,bf,jd];omega
 have u:bP (70::(az 4 T++aM d b))=none:=by simp [bP]
 have t:dh (70::(az 4 T++aM d b))=none:=by simp [dh]
 have s:bS (70::(az 4 T++aM d b))=some (T,d,b):=by
  show (if (70:UInt8)=70 then (fZ 4 (az 4 T++aM d b)).bind fun a=>(dq a.2).bind fun x=>if a.1≤1000000000 then some (a.1,x.1,x.2) else none else none)=_;rw [if_pos rfl,jx (k:=4) (aM d b) (show T < 256 ^ 4 by omega)];show (dq (aM d b)).bind _=_;rw [j7 A h1 W B c];show (if T≤1000000000 then some (T,d,b) else none)=_;rw [if_pos hT]
 obtain ⟨l,el⟩:∃l,70::(az 4 T++aM d b)=l:=⟨_,rfl⟩;rw [el] at H u t s ⊢;have HH:=Lib.hid h;have HM:=Lib.hid (ka l n w H hm);have P:=Lib.hid u;have N:=Lib.hid t;have z:=Lib.hid s;have O:=Lib.hid c;have Q:=Lib.hid hS;have y:=Lib.hid j;clear h hm u t s el B c j hS;go_enter Tryz.func75,Tryz.ntmps75;go_wp2_with fail
 refine HM.out.mono ?_;rintro e w1 ⟨i,o⟩;have A1:=Lib.hid (HH.out.keep o);have K:=Lib.hid o;clear o
 rcases i with ⟨_,rfl⟩ | ⟨mm,v,c,_⟩
 case inr=>rw [P.out] at c;cases c
 simp only [aY,lf];go_wp2_with fail
 refine (ma l _ H).mono ?_;rintro e w3 ⟨i,p⟩;have A3:=Lib.hid ((A1.out.keep ((Below.refl _ _).alloc (Nat.le_refl _) _)).keep p);have L:=Lib.hid ((K.out.alloc K.out.size _).trans (p.mono (Nat.le_trans K.out.size (by simp))));clear p
 rcases i with ⟨_,rfl⟩ | ⟨Y,Z,v,c,_⟩
 case inr=>rw [N.out] at c;cases c
 go_wp2_with fail
 refine (nA l _ H).mono ?_;rintro e w5 ⟨i,r⟩;have A5:=Lib.hid ((A3.out.keep ((Below.refl _ _).alloc (Nat.le_refl _) _)).keep r);have B5:=Lib.hid ((L.out.alloc L.out.size _).trans (r.mono (Nat.le_trans L.out.size (by simp))));clear r
 rcases i with ⟨c,rfl⟩ | ⟨T',Y,Z,v,c,rfl,⟨X,_,_,_,_⟩,_⟩
 ·rw [z.out] at c;cases c
 rw [z.out] at c;obtain ⟨rfl,C⟩:=Prod.mk.inj (Option.some.inj c);obtain ⟨rfl,rfl⟩:=Prod.mk.inj C;obtain ⟨av,nv,cv,rfl⟩:=kj X;obtain ⟨G,m⟩:∃G:World,w5.alloc (.cells #[.int .i64 d,.slice av nv cv] 193)=G:=⟨_,rfl⟩;have E:Below w5.heap.size w5 G:=by rw [←m];exact (Below.refl _ _).alloc (Nat.le_refl _) _
 have HT:=Lib.hid (rj f D I q J _ S F T d b G (A5.out.keep E) V _ (ep X fun g a0 e _=>ae E e) A h1 (by omega) O.out hT hn y.out U Q.out);have M:=Lib.hid (B5.out.trans (E.mono B5.out.size));have R:=Lib.hid m;clear c C E m X;go_wp2_with fail
 rw [R.out];refine HT.out.mono ?_;rintro e w7 ⟨rfl,hP⟩;have HP:Hid (fR f D I q J S F T w (.returned (.bool true)) w7):=Lib.hid (fR.after HH.out M.out ⟨rfl,hP⟩);clear hP;go_wp2_with fail
 go_ret;exact HP.out
theorem gv.after [Kn] {d c:Nat} {q:Nat→Nat} {f:Value} {S i:bp} {a l:List UInt8} {w m j:World} {e:Ending} (h:fv w d c q f S a) (b:Below w.heap.size w m) (t:gv d c q f S i a l m e j):gv d c q f S i a l w e j:=by
 obtain ⟨n,s,g,o,p,r⟩:=t;have u:=b.size;refine ⟨n,s,g,o,(aH.below b).trans p (fun _ _ e=>e.imp (cR h.inn b) id),fun k e=>(r k e).imp (fun e=>e.imp (cR h.inn b) id) (fun e=>by omega)⟩
theorem Ih [Kn] {S:bp} {K:Nat} {a:List Nat} {T:Nat} (h:Kn.n0≤S.items.length):pn S (S.outs K a) T:=
 pn.of h (by rw [bL];exact Nat.le_refl _) (fun i _=>mo S K a i) (fun i b c=>by have:=bq b;rw [bL] at this;omega)
theorem EV [Kn] {S l:bp} {T e:Nat} {f:List Nat} (h:Kn.n0≤S.items.length) (c:S.takesF T e f=some l):pn S l T:=by
 unfold bp.takesF at c
 split at c
 ·injection c with c;unfold bp.failed at c
  split at c
  ·subst c;have j:(bp.mk (S.outs (e - 1) f).items T).items.length=S.items.length:=bL S _ f;refine pn.of h (by rw [j];exact Nat.le_refl _) (fun i _=>mo S (e - 1) f i) (fun i g k=>by have:=bq g;rw [j] at this;omega)
  ·subst c;have j:((S.outs (e - 1) f).items++[(⟨⟨(S.outs (e - 1) f).items.length+1,T,[],[(S.mailOf (e - 1)).frm],Ai (S.mailOf (e - 1)).tos f⟩,[false]⟩:fH)]).length=S.items.length+1:=by rw [List.length_append,bL];rfl
   refine pn.of h (by show _≤List.length _;rw [j];omega) (fun i g=>?_) (fun i g k=>?_)
   ·have d:i < (S.outs (e - 1) f).items.length:=by rw [bL];exact g
    rw [←mo S (e - 1) f i];unfold bp.mailOf;show ((List.append _ _)[i]?.map _).getD _=_;rw [show ∀a b:List fH,List.append a b=a++b from fun _ _=>rfl,List.getElem?_append_left d]
   ·have d:=bq g;have d:i < S.items.length+1:=by rw [←j];exact d
    obtain rfl:i=S.items.length:=by omega
    unfold bp.mailOf;show aX.time (((List.append _ _)[S.items.length]?.map _).getD _)=_;rw [show ∀a b:List fH,List.append a b=a++b from fun _ _=>rfl,List.getElem?_append_right (by rw [bL];exact Nat.le_refl _),bL,Nat.sub_self];rfl
 ·cases c
theorem z8 [Kn] (g u:Nat) (q:Nat→Nat) (v H:Value) (S:bp) (b:List UInt8) (c:Nat) (a:List Nat) (n:Int) (w:World) (h:fv w g u q v S b) (r:S.Ok) (A:bg w H a.length 1 (aZ a)) (B:b.length≤1073741824) (F:w.cell? ⟨0,0,none⟩=some (.int .i64 n)) (p:0 < w.heap.size) (M:S.items.length < 4294967295) (o:c≤4294967295) (L:1≤a.length) (t:a.length≤100) (f:∀x∈a,x≤255) (G:bF a=true) (d:bt S c a=true):
  Calls Tryz.prog 120 #[.pointer (some ⟨g,0,none⟩),.int .i64 c,H] w fun e C=>e= .returned (.tuple #[])∧gv g u q v S (S.outs (c - 1) a) b (71::aM c a) w (.returned (.bool true)) C:=by
 obtain ⟨J,K,rfl,_⟩:=A.one;have D:Hid (∀W:World,Below w.heap.size w W→Calls Tryz.prog 171 #[.agg #[.int .i64 c,.slice J a.length K]] W fun e C=>e= .returned (.string (bs (71::aM c a)))∧Below W.heap.size W C):=Lib.hid (fun W k=>xr _ c a W (A.below k) o t f)
 have z:(71::aM c a).length≤1000:=by
  unfold aM;simp only [List.length_cons,List.length_append,bf,jd];omega
 have j:Hid (∀W:World,Below w.heap.size w W→Calls Tryz.prog 123 #[.pointer (some ⟨g,0,none⟩),.string (bs (71::aM c a))] W (gv g u q v S (S.outs (c - 1) a) b (71::aM c a) W)):=Lib.hid (fun W k=>kY g u q v S _ b _ S.time W (h.below k) (Ih h.kn) (by omega) B (tJ 0 g u q v S c S.time a n W (h.below k).inn r ((k.cell p).trans F) M o L t f G d));obtain ⟨l,E⟩:∃l,71::aM c a=l:=⟨_,rfl⟩;rw [E] at D j ⊢;have N:¬(a.length:Int)≤0:=by omega
 have O:(0:Int) < (a.length:Int):=by omega
 have I:=Lib.hid h;clear h A F p E f G d z r;go_enter Tryz.func120,Tryz.ntmps120;go_wp2_with fail
 refine (D.out w (Below.refl _ _)).mono ?_;rintro e P ⟨rfl,m⟩;have i:=Lib.hid m;clear m;go_wp2_with fail
 refine (j.out P i.out).mono ?_;intro e Q s;have y:=Lib.hid (gv.after I.out i.out s);obtain ⟨rfl,_⟩:=s;go_wp2_with fail
 refine bodyPost_end (results_none rfl _ _ _) rfl ?_;exact ⟨rfl,y.out⟩
theorem wv [Kn] (f u:Nat) (q:Nat→Nat) (v J:Value) (S y:bp) (b:List UInt8) (c:Nat) (a:List Nat) (n:Int) (w:World) (h:fv w f u q v S b) (r:S.Ok) (C:bg w J a.length 1 (aZ a)) (D:b.length≤1073741824) (H:w.cell? ⟨0,0,none⟩=some (.int .i64 n)) (p:0 < w.heap.size) (P:S.items.length < 4294967295) (o:c≤4294967295) (N:1≤a.length) (t:a.length≤100) (g:∀x∈a,x≤255) (I:bF a=true) (d:bt S c a=true) (O:S.time≤1000000000) (A:S.takesF S.time c a=some y):
  Calls Tryz.prog 83 #[.pointer (some ⟨f,0,none⟩),.int .i64 c,J] w fun e E=>e= .returned (.tuple #[])∧gv f u q v S y b (70::(az 4 S.time++aM c a)) w (.returned (.bool true)) E:=by
 obtain ⟨L,M,rfl,_⟩:=C.one;have F:Hid (∀W:World,Below w.heap.size w W→Calls Tryz.prog 124 #[.int .i64 S.time,.agg #[.int .i64 c,.slice L a.length M]] W fun e E=>e= .returned (.string (bs (70::(az 4 S.time++aM c a))))∧Below W.heap.size W E):=Lib.hid (fun W k=>sL _ S.time c a W (C.below k) (by omega) o t g)
 have B:(70::(az 4 S.time++aM c a)).length≤1000:=by
  unfold aM;simp only [List.length_cons,List.length_append,bf,jd];omega
 have j:Hid (∀W:World,Below w.heap.size w W→Calls Tryz.prog 123 #[.pointer (some ⟨f,0,none⟩),.string (bs (70::(az 4 S.time++aM c a)))] W (gv f u q v S y b (70::(az 4 S.time++aM c a)) W)):=Lib.hid (fun W k=>kY f u q v S _ b _ S.time W (h.below k) (EV h.kn A) (by omega) D (tH 0 f u q v S y c S.time a n W (h.below k).inn r ((k.cell p).trans H) P o N t g I d O (Nat.le_refl _) A));obtain ⟨l,G⟩:∃l,70::(az 4 S.time++aM c a)=l:=⟨_,rfl⟩;rw [G] at F j ⊢;have Q:(0:Int) < (a.length:Int):=by omega
 have T:w.cell? ⟨f,1,none⟩=some (.int .i64 S.time):=by rw [Lib.cell_of_heap h.inn.bag];rfl
 have K:=Lib.hid h;clear h C H p G g I d B r A;go_enter Tryz.func83,Tryz.ntmps83;go_wp2_with fail
 refine (F.out w (Below.refl _ _)).mono ?_;rintro e R ⟨rfl,m⟩;have i:=Lib.hid m;clear m;go_wp2_with fail
 refine (j.out R i.out).mono ?_;intro e U s;have z:=Lib.hid (gv.after K.out i.out s);obtain ⟨rfl,_⟩:=s;go_wp2_with fail
 refine bodyPost_end (results_none rfl _ _ _) rfl ?_;exact ⟨rfl,z.out⟩
theorem Ci (d:Nat) (b:Value) (c:Int) (w:World) (a:bg w b 0 1 []):
  Calls Tryz.prog 120 #[.pointer (some ⟨d,0,none⟩),.int .i64 c,b] w fun e f=>e= .returned (.tuple #[])∧w=f:=by
 obtain ⟨g,h,rfl,_⟩:=a.one;clear a;go_enter Tryz.func120,Tryz.ntmps120;go_wp2_with fail
 refine bodyPost_end (results_none rfl _ _ _) rfl ?_;exact ⟨rfl,rfl⟩
theorem yB (d:Nat) (b:Value) (c:Int) (w:World) (a:bg w b 0 1 []):
  Calls Tryz.prog 83 #[.pointer (some ⟨d,0,none⟩),.int .i64 c,b] w fun e f=>e= .returned (.tuple #[])∧w=f:=by
 obtain ⟨g,h,rfl,_⟩:=a.one;clear a;go_enter Tryz.func83,Tryz.ntmps83;go_wp2_with fail
 refine bodyPost_end (results_none rfl _ _ _) rfl ?_;exact ⟨rfl,rfl⟩
theorem bh.waits {d E B:Nat} {q:Nat→Nat} {J:Value} {S:bp} {w t:World} (h:bh d w E B q J S) {i:Nat} (y:i∈S.live) (s:aL (q i) w t) {C:Array Value} (r:w.heap[q i]? =some (.cells C 158 (0,0))) (a b:Int)
  (F:t.heap[q i]? =some (.cells ((C.setIfInBounds 4 (.int .i64 a)).setIfInBounds 5 (.int .i64 b)) 158 (0,0))):bh d t E B q J S∧(∀k,fM t E B q S k→fM w E B q S k)∧∀D,jk w q S.live D→jk t q S.live (fun j=>if j=i then (a,b) else D j):=by
 obtain ⟨T,I,V,K,U⟩:=h.mail i y;have c:=K;unfold dL at c;rw [r] at c;injection c with c;injection c with c;subst c;refine ⟨⟨aP s h.bag (fun e=>?_),aP s h.map (fun e=>?_),h.pbb,h.mbb,h.one,fun j f=>?_⟩,fun k R=>?_,fun D Q j f=>?_⟩
 ·rw [←e,h.bag] at r;simp at r
 ·have:=h.map;unfold gh at this;rw [e,r] at this;simp at this
 ·obtain ⟨H,v,x,l,L⟩:=h.mail j f
  have n:t.ownsRow d 162 2 v (S.stayOf j).length (aR (S.stayOf j)):=ep L fun g M e _=>aP s e fun o=>by
   rw [o,r] at e;simp at e
  by_cases e:j=i
  ·subst e;unfold dL at l;rw [r] at l;injection l with l;injection l with l
   have u:I=v:=by
    have:=congrArg (fun A:Array Value=>A[2]?) l;simpa using this
   subst u;exact ⟨H,I,(a,b),F,n⟩
  ·exact ⟨H,v,x,aP s l (fun o=>e (h.one j f i y o)),n⟩
 ·rcases R with e | e | ⟨j,f,e | ⟨D,z,m,u⟩⟩
  ·exact .inl e
  ·exact .inr (.inl e)
  ·exact .inr (.inr ⟨j,f,.inl e⟩)
  ·by_cases p:j=i
   ·subst p;rw [F] at m;injection m with m;injection m with m;subst m;exact .inr (.inr ⟨j,f,.inr ⟨_,_,r,u⟩⟩)
   ·obtain ⟨_,v,x,l,_⟩:=h.mail j f;rw [s.2 _ (fun o=>p (h.one j f i y o))] at m;exact .inr (.inr ⟨j,f,.inr ⟨_,_,m,u⟩⟩)
 ·by_cases p:j=i
  ·subst p;exact ⟨_,F,by simp,by simp⟩
  ·obtain ⟨D',N,O,P⟩:=Q j f;have G:q j≠q i:=fun o=>p (h.one j f i y o);exact ⟨D',(s.2 _ G).trans N,by simp only [if_neg p];exact O,by simp only [if_neg p];exact P⟩
abbrev iQ (K:Kn) (S':bp) (i:Nat) (d:Int×Int):Kn:=⟨fun j=>if j=i then d else @bV K S' j,S'.items.length,K.tk⟩
def kH (l:List Int) (f:Int):Int:=l.getD (if (l.length:Int) - 1 < f then l.length - 1 else f.toNat) 0
theorem fv.rekn [K:Kn] {w:World} {g f:Nat} {q:Nat→Nat} {b:Value} {S:bp} {a:List UInt8} {i:Nat} {d:Int×Int} (h:bh 0 w g f q b S) (k:dT w b a) (l:jk w q S.live (fun j=>if j=i then d else bV S j)):@fv (iQ K S i d) w g f q b S a:=
 @fv.mk (iQ K S i d) _ _ _ _ _ _ _ h k (fun j c=>by
  have e:@bV (iQ K S i d) S j=if j=i then d else bV S j:=by
   show (if j < S.items.length then (if j=i then d else bV S j) else _)=_;rw [if_pos (bq c)]
  rw [e]
  exact l j c) (Nat.le_refl _)
def gn [K:Kn] (pb mb:Nat) (q:Nat→Nat) (vr:Value) (S:bp) (y:bp×List UInt8) (w w':World):Prop:=
 ∃q' vr',fv w' pb mb q' vr' y.1 y.2∧aH (an w pb mb q vr S) w w'∧∀k,an w' pb mb q' vr' y.1 k→an w pb mb q vr S k∨w.heap.size≤k
theorem zJ [K:Kn] (d o:Nat) (q:Nat→Nat) (g f:Value) (S:bp) (a:List UInt8) (i:Nat) (b:List Nat) (n:Int) (w:World) (h:fv w d o q g S a) (m:oK (S,a)) (t:bg w f b.length 1 (aZ b)) (s:w.cell? ⟨0,0,none⟩=some (.int .i64 n)) (C:i≤4294967294) (j:b.length≤100) (l:∀x∈b,x≤255) (z:bF b=true) (c:b≠[]→bt S (i+1) b=true):
  Calls Tryz.prog 120 #[.pointer (some ⟨d,0,none⟩),.int .i64 ((i:Int)+1),f] w fun e r=>e= .returned (.tuple #[])∧gn d o q g S (i7 (S,a) i b) w r:=by
 by_cases e:b=[]
 ·subst e;refine (Ci d f _ w t).mono ?_;rintro e r ⟨rfl,rfl⟩;exact ⟨rfl,q,g,h,aH.refl _ _,fun k e=> .inl e⟩
 ·refine (z8 d o q g f S a (i+1) b n w h m.ok t (by have:=m.led.len;simp only at this;omega) s (eI s) (by have:=m.led.items;simp only at this;omega) (by omega) (List.length_pos_iff.2 e) j l z (c e)).mono ?_;rintro B r ⟨rfl,_,A,p,u,v,y⟩;unfold i7;rw [if_neg e];exact ⟨rfl,A,p,u,v,y⟩
theorem nI [K:Kn] (g o:Nat) (q:Nat→Nat) (l j:Value) (S:bp) (a:List UInt8) (i:Nat) (b:List Nat) (n:Int) (w:World) (h:fv w g o q l S a) (f:oK (S,a)) (t:bg w j b.length 1 (aZ b)) (s:w.cell? ⟨0,0,none⟩=some (.int .i64 n)) (E:i≤4294967294) (d:b.length≤100) (m:∀x∈b,x≤255) (u:bF b=true) (c:b≠[]→bt S (i+1) b=true):
  Calls Tryz.prog 83 #[.pointer (some ⟨g,0,none⟩),.int .i64 ((i:Int)+1),j] w fun e r=>e= .returned (.tuple #[])∧gn g o q l S (jr (S,a) i b) w r:=by
 by_cases e:b=[]
 ·subst e;refine (yB g j _ w t).mono ?_;rintro e r ⟨rfl,rfl⟩;exact ⟨rfl,q,l,h,aH.refl _ _,fun k e=> .inl e⟩
 ·have B:=(nP f d u c).2 e;refine (wv g o q l j S _ a (i+1) b n w h f.ok t (by have:=f.led.len;simp only at this;omega) s (eI s) (by have:=f.led.items;simp only at this;omega) (by omega) (List.length_pos_iff.2 e) d m u (c e) f.time B).mono ?_;rintro D r ⟨rfl,_,C,p,y,z,A⟩;refine ⟨rfl,C,p,?_,z,A⟩;have v:(jr (S,a) i b).2=a++bJ (70::(az 4 S.time++aM (i+1) b)):=by unfold jr;rw [if_neg e]
  rw [v];exact y
def Kc (w:World) (pb mb:Nat) (q:Nat→Nat) (vr:Value) (S:bp) (v:Value):Prop:=∀g,v.ownBlock=some g→g < w.heap.size∧¬an w pb mb q vr S g
theorem DH [K:Kn] (d f:Nat) (q:Nat→Nat) (H vg vf vw:Value) (S:bp) (a:List UInt8) (i:Nat) (u m:List Nat) (c:List Int) (n:Int) (w:World) (h:fv w d f q H S a) (hx:oK (S,a)) (hi:i∈S.live) (rg:bg w vg u.length 1 (aZ u)) (rf:bg w vf m.length 1 (aZ m)) (Z:bg w vw c.length 1 (ib c)) (of:Kc w d f q H S vf) (ow:Kc w d f q H S vw)
  (hm:w.cell? ⟨0,0,none⟩=some (.int .i64 n)) (c4:¬an w d f q H S 0) (b7:u.length≤100) (b5:m.length≤100) (b6:∀x∈u,x≤255) (b4:∀x∈m,x≤255) (c5:bF u=true) (X:bF m=true) (r:∀p∈u,p∈(S.stayOf i).map (·.1)) (hf:∀p∈m,p∈(S.stayOf i).map (·.1)) (hd:∀p∈u,p ∉ m)
  (f3:1≤c.length) (f5:c.length≤100) (c6:∀x∈c,1≤x∧x≤1000000000) (b2:0≤(bV S i).2) (b3:(bV S i).2≤1000000000000):
  Calls Tryz.prog 79 #[.pointer (some ⟨d,0,none⟩),.int .i64 ((i:Int)+1),vg,vf,vw] w fun e w'=>e= .returned (.tuple #[])∧∃q' c7,@fv (iQ K (kR (S,a) i u m).1 i (S.time+kH c (bV S i).2,(bV S i).2+1)) w' d f q' c7 (kR (S,a) i u m).1 (kR (S,a) i u m).2∧aH (an w d f q H S) w w'∧∀k,an w' d f q' c7 (kR (S,a) i u m).1 k→an w d f q H S k∨w.heap.size≤k:=by
 obtain ⟨m1,l1,m2,l2,t2⟩:=kS hx hi b7 b5 X r hf hd;have e5:i < S.items.length:=bq hi;have b8:i≤4294967294:=by have:=hx.led.items;simp only at this;omega
 have HG:=Lib.hid (zJ d f q H vg S a i u n w h hx rg hm b8 b7 b6 c5 m1);obtain ⟨G,R⟩:∃G,i7 (S,a) i u=G:=⟨_,rfl⟩;obtain ⟨I,T⟩:∃I,kR (S,a) i u m=I:=⟨_,rfl⟩;have b1:jr G i m=I:=by rw [←R,←T];rfl
 rw [R] at HG l1 m2 l2 t2;rw [T] at l2 t2 ⊢;have Q:=l1.aft.trans l2.aft;have eD:bV I.1 i=bV S i:=by unfold bV;rw [Q.mail i e5]
 have eT:I.1.time=S.time:=Q.time
 have HF:Hid (∀Y s (E:World),fv E d f Y s G.1 G.2→bg E vf m.length 1 (aZ m)→E.cell? ⟨0,0,none⟩=some (.int .i64 n)→Calls Tryz.prog 83 #[.pointer (some ⟨d,0,none⟩),.int .i64 ((i:Int)+1),vf] E fun e w'=>e= .returned (.tuple #[])∧gn d f Y s G.1 I E w'):=Lib.hid (fun Y s E h1 h2 h3=>by
  have:=nI d f Y s vf G.1 G.2 i m n E h1 l1.ok h2 h3 b8 b5 b4 X m2;rw [show jr (G.1,G.2) i m=I from b1] at this
  exact this)
 obtain ⟨F,eF⟩:∃F,(bV S i).2=F:=⟨_,rfl⟩;obtain ⟨aw,cw,ew,e4⟩:=Z.one
 obtain ⟨k,V,M⟩:∃k:Nat,k < c.length∧(if (c.length:Int) - 1 < F then (c.length:Int) - 1 else F)=(k:Int)∧kH c F=c.getD k 0:=by
  rw [eF] at b2 b3
  by_cases hc:(c.length:Int) - 1 < F
  ·refine ⟨c.length - 1,by omega,?_,?_⟩
   ·rw [if_pos hc];omega
   ·unfold kH;rw [if_pos hc]
  ·refine ⟨F.toNat,by omega,?_,?_⟩
   ·rw [if_neg hc];omega
   ·unfold kH;rw [if_neg hc]
 obtain ⟨M,e6⟩:=M;obtain ⟨W,eW⟩:∃W,c.getD k 0=W:=⟨_,rfl⟩
 have hW:1≤W∧W≤1000000000:=by
  rw [←eW,List.getD_eq_getElem?_getD,List.getElem?_eq_getElem V];exact c6 _ (List.getElem_mem V)
 rw [eF,e6,eW];have f0:S.time≤1000000000:=hx.time;have HH:=Lib.hid h;have e8:=Lib.hid l2.ok;have a9:=Lib.hid Z;have d2:=Lib.hid of;have a7:=Lib.hid ow;have d3:=Lib.hid rf;have d1:=Lib.hid c4;have HM:=Lib.hid hm
 have c8:Hid (∀W2:World,bg W2 vw c.length 1 (ib c)→∃b A,aw=some ⟨b,A,none⟩∧W2.cell? ⟨b,A+k,none⟩=some (.int .i64 W)):=Lib.hid (fun W2 hr=>by
  obtain ⟨a',c',e',e0⟩:=hr.one;rw [ew] at e';injection e' with e1 _ _;obtain ⟨b,A,e2,_,e3⟩:=e0 k V;refine ⟨b,A,e1.trans e2,?_⟩;rw [e3,←eW];unfold ib;rw [List.getElem?_map,List.getElem?_eq_getElem V,List.getD_eq_getElem?_getD,List.getElem?_eq_getElem V]
  rfl)
 have b0:=Lib.hid (l2.ok.led.items);have c9:=Lib.hid eD;rw [eF] at b2 b3;clear h hx rg rf Z of ow hm c4 l1 l2 m1 m2 t2 r hf hd c5 X b6 b4 R T b1 Q eD c6 e4 eW;subst ew;go_enter Tryz.func79,Tryz.ntmps79;go_wp2_with fail
 refine HG.out.mono ?_;rintro e E ⟨rfl,Y,s,R1,K1,O1⟩;have O:∀{v:Value},Kc w d f q H S v→Kc E d f Y s G.1 v:=fun ho g r=>⟨Nat.lt_of_lt_of_le (ho g r).1 K1.size,fun e=>(O1 g e).elim (ho g r).2 (fun e=>by have:=(ho g r).1;omega)⟩;have e7:0 < w.heap.size:=eI HM.out;have M1:E.cell? ⟨0,0,none⟩=some (.int .i64 n):=(World.cell?_of_block (K1.block _ e7 d1.out)).trans HM.out;have d0:=Lib.hid (HF.out Y s E R1 (d3.out.chg K1 (fun g r=>(d2.out g r).2)) M1);have d7:=Lib.hid (a9.out.chg K1 (fun g r=>(a7.out g r).2));have a8:=Lib.hid (O a7.out);have a4:=Lib.hid K1;have a6:=Lib.hid O1;clear R1 K1 O1 O M1;go_wp2_with fail
 refine d0.out.mono ?_;rintro e l ⟨rfl,B,a0,N,K2,O2⟩;have a5:Hid (aH (an w d f q H S) w l):=Lib.hid (a4.out.trans K2 (fun k V e=>(a6.out k e).elim id (fun e=>by omega)));have P:Hid (∀k,an l d f B a0 I.1 k→an w d f q H S k∨w.heap.size≤k):=Lib.hid (fun k e=>(O2 k e).elim (a6.out k) (fun e=> .inr (Nat.le_trans a4.out.size e)));obtain ⟨b,A,ea,cb⟩:=c8.out l (d7.out.chg K2 (fun g r=>(a8.out g r).2));subst ea;have c3:l.cell? ⟨d,3,none⟩=some (.map (some f)):=by rw [Lib.cell_of_heap N.inn.bag];rfl
 have c1:l.cell? ⟨d,1,none⟩=some (.int .i64 (S.time:Int)):=by rw [Lib.cell_of_heap N.inn.bag,←eT];rfl
 have y:∀i∈I.1.live,i < 4294967296:=fun i hi=>by have:=bq hi;have:=b0.out;omega
 have o:=Lib.hid N;clear K2 O2
 by_cases hl:i∈I.1.live
 ·have c0:(Instr.lookup 115 (.map (some f)) (.int .i64 ((i:Int)+1)) true).run Tryz.prog l= .ok (.tuple #[.pointer (some ⟨B i,0,none⟩),.bool true]) l:=
   ig (t:=115) (e:=122) fU Tryz.underlying115 N.inn.map y i (by omega) hl true
  obtain ⟨C,hC,U,D⟩:=N.due i hl;rw [c9.out] at U D;rw [eF] at D;have J:l.drew.heap[B i]? =some (.cells C 158 (0,0)):=hC;have d4:l.drew.cell? ⟨B i,4,none⟩=some (.int .i64 (bV S i).1):=by rw [Lib.cell_of_heap J,U]
  have d5:l.drew.cell? ⟨B i,5,none⟩=some (.int .i64 F):=by rw [Lib.cell_of_heap J,D]
  have f4:=Lib.frozen_of_heap J 4;have e1:l.drew.cell? ⟨d,1,none⟩=some (.int .i64 (S.time:Int)):=c1;have c2:min F ((c.length:Int) - 1)=(k:Int):=by rw [←M];by_cases hc:(c.length:Int) - 1 < F <;> simp only [hc,if_true,if_false] <;> omega
  have eb:l.drew.cell? ⟨b,A+(min F ((c.length:Int) - 1)).toNat,none⟩=some (.int .i64 W):=by rw [c2,Int.toNat_natCast];exact cb
  have f8:IntKind.i64.wrap ((S.time:Int)+W)=(S.time:Int)+W:=by rw [IntKind.wrap_i64];omega
  have f6:IntKind.i64.wrap (F+1)=F+1:=by rw [IntKind.wrap_i64];omega
  have f7:IntKind.i64.wrap ((c.length:Int) - 1)=(c.length:Int) - 1:=by rw [IntKind.wrap_i64];omega
  have f2:(0:Int)≤min F ((c.length:Int) - 1):=by omega
  have f1:min F ((c.length:Int) - 1) < (c.length:Int):=by omega
  obtain ⟨W3,L⟩:∃W3:World,(l.setCell ⟨B i,4,none⟩ (.int .i64 (S.time+W))).drew=W3:=⟨_,rfl⟩;have S3:aL (B i) l W3:=by rw [←L];exact ((aL.refl _ _).setCell _).drew
  have X3:W3.heap[B i]? =some (.cells (C.setIfInBounds 4 (.int .i64 (S.time+W))) 158 (0,0)):=by rw [←L];exact heap_setCell_same l _ 4 _ _ _ hC
  have x5:W3.cell? ⟨B i,5,none⟩=some (.int .i64 F):=by rw [Lib.cell_of_heap X3,Array.getElem?_setIfInBounds_ne (by decide)];exact D
  have y5:=Lib.frozen_of_heap X3 5;have HC:=Lib.hid hC;have d9:=Lib.hid X3;have d6:=Lib.hid S3;have d8:=Lib.hid L;clear N hC U D y J X3 S3 L;go_wp2_with fail
  clear c1 cb c3 c0 c2 M;go_region
  all_goals
   rw [d8.out];go_wp2_with fail
   refine bodyPost_end (results_none rfl _ _ _) rfl ?_;have S1:aL (B i) l (W3.setCell ⟨B i,5,none⟩ (.int .i64 (F+1))):=d6.out.setCell _;obtain ⟨g1,g2,g3⟩:=o.out.inn.waits hl S1 HC.out (S.time+W) (F+1) (heap_setCell_same _ _ 5 _ _ _ d9.out);refine ⟨rfl,B,a0,fv.rekn g1 (o.out.row.chg (aH.same S1) (fun g r e=>?_)) (g3 _ o.out.due),a5.out.trans (aH.same S1) (fun k V e=>?_),fun k e=>P.out k (e.imp (g2 k) id)⟩
   ·rw [e] at r;obtain ⟨e9,z,h1⟩:=o.out.row.tag r;rw [HC.out] at h1;simp at h1
   ·exact (P.out k (.inl (.inr (.inr ⟨i,hl,.inl e⟩)))).elim id (fun e=>by omega)
 ·have c0:(Instr.lookup 115 (.map (some f)) (.int .i64 ((i:Int)+1)) true).run Tryz.prog l= .ok (.tuple #[.pointer none,.bool false]) l:=
   rM (t:=115) (e:=122) fU Tryz.underlying115 (pk _) N.inn.map y i (by omega) hl true
  clear N y;go_wp2_with fail
  refine bodyPost_end (results_none rfl _ _ _) rfl ?_;refine ⟨rfl,B,a0,fv.rekn o.out.inn o.out.row (fun j hj=>?_),a5.out,P.out⟩;have:j≠i:=fun e=>hl (by rw [←e];exact hj);obtain ⟨C,a1,a2,a3⟩:=o.out.due j hj;exact ⟨C,a1,by simp only [if_neg this];exact a2,by simp only [if_neg this];exact a3⟩
open Go.RowKit Go.Shelf
def mE (l:List Nat):List Nat:=l.mergeSort (fun x y=>decide (x≤y))
theorem qe (l:List Nat):aZ l=(l.map fun (n:Nat)=>(n:Int)).map (Value.int .i64):=by unfold aZ;rw [List.map_map];rfl
theorem FR (l:List Nat):(l.map fun (n:Nat)=>(n:Int)).mergeSort (fun x y=>decide (x≤y))=(mE l).map fun (n:Nat)=>(n:Int):=by
 unfold mE;rw [List.map_mergeSort (s:=fun x y=>decide (x≤y))];intro a _ b _;rw [Bool.eq_iff_iff];simp only [decide_eq_true_eq];omega
theorem yg (B:Nat) (v:Value) (l:List Nat) (w:World) (h:w.ownsRow B 3 1 v l.length (aZ l)) (x:l.length≤1000):
  Calls Tryz.prog 94 #[v] w fun e d=>e= .returned (.tuple #[])∧d.ownsRow B 3 1 v l.length (aZ (mE l))∧aH (fun k=>v.ownBlock=some k) w d:=by
 have c:(mE l).length=l.length:=List.length_mergeSort _
 rcases h.2 with ⟨rfl,o⟩ | ⟨g,a,b,rfl,t,f,p,q,r,s⟩
 ·have i:l=[]:=List.eq_nil_of_length_eq_zero o;subst i;refine (AnyM.slices_Sort_int_none Tryz.sortA none 0 w).mono ?_;rintro e d ⟨rfl,rfl⟩;exact ⟨rfl,by simpa [mE] using h,aH.refl _ _⟩
 ·have u:Go.Sort.Holds (Value.int .i64) w g 0 (l.map fun (n:Nat)=>(n:Int)).toArray:=holds_of_blockI f (by rw [List.length_map,←qe,←s,Nat.mul_one]);have j:=AnyM.slices_Sort_int Tryz.sortA g 0 a (l.map fun (n:Nat)=>(n:Int)) w u (ah f) (by rw [List.length_map];omega);rw [List.length_map] at j;refine j.mono ?_;rintro e d ⟨rfl,n,m,rfl⟩;rw [FR];refine ⟨rfl,?_,(aH.grown (grownBy_sortedI _)).mono (fun k _ e=>by rw [show (Value.slice (some ⟨g,0,none⟩) l.length a).ownBlock=some g from rfl];exact e)⟩;have:=ownsRow_sortedI (w:=w) (base:=B) (g:=g) (cap:=a) (n:=n) (e:=3) (os:=m) (cur:=b) (ss:=l.map fun (n:Nat)=>(n:Int)) (ts:=(mE l).map fun (n:Nat)=>(n:Int)) (by rw [List.length_map,List.length_map,c]) t f (by rw [List.length_map];exact p) q r;rw [List.length_map] at this;rw [qe];exact this
theorem FI:bw []=(⟨[],0⟩,0):=by kernel_rfl
theorem kl.rowM {w:World} {v:Value} {l:List UInt8} (h:kl w v l):dT w v l:=by
 obtain ⟨g,a,b,z,e,k,_,c,d,f,i,j⟩:=h;exact .inr ⟨g,a,b,z,e,k,.inr c,d,f,i,j⟩
end Go.Proofs.YtofpegbpgkkgkaaGreatDoor
