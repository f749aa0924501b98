import Derived.Test.YtofpegbpgkkgkaaGreatDoorS16
import Derived.Test.YtofpegbpgkkgkaaGreatDoorS32
import Derived.Test.YtofpegbpgkkgkaaGreatDoorS31
namespace Go.Proofs.YtofpegbpgkkgkaaGreatDoor
set_option maxHeartbeats 8000000
set_option maxRecDepth 1000000
open Go.RowKit
open Go.Lib (bytesWorld bytesWorld_size bytesWorld_at_old bytesWorld_cell)
def jU (w:World) (v:Value) (l:List UInt8):Prop:=∃g cap cur z,v= .slice (some ⟨g,0,none⟩) l.length cap∧w.heap[g]? =some (.cells cur 5 z)∧(∀j,j < l.length→w.cell? ⟨g,j,none⟩=some (.int .u8 (l.getD j 0).toNat))∧cap≤z.1∧l.length≤cap∧cap≤maxLen∧cur.size=cap∧cur.toList.take l.length=Lib.byteCells l
theorem jU.moves {w f:World} {v:Value} {l:List UInt8} (h:jU w v l) (m:∀(g:Nat) (a:Array Value) (z:Nat×Nat),w.heap[g]? =some (.cells a 5 z)→f.heap[g]? =some (.cells a 5 z)):jU f v l:=by
 obtain ⟨g,c,a,z,e,d,i,n⟩:=h;have b:=m g a z d;exact ⟨g,c,a,z,e,b,fun j k=>(World.cell?_of_block (w:=w) (b.trans d.symm)).trans (i j k),n⟩
theorem jU.keep {w a:World} {v:Value} {l:List UInt8} (h:jU w v l) (b:Below w.heap.size w a):jU a v l:=h.moves fun _ _ _ e=>ae b e
theorem bf.nil {w:World}:bf w.heap.size ((w.alloc (.map #[] 0)).alloc (.cells #[.slice none 0 0,.int .i64 0,.int .i64 0,.map (some w.heap.size)] 117)) (w.heap.size+1) w.heap.size (fun _=>0) (.slice none 0 0) ⟨[],0⟩:=by
 have b:((w.alloc (.map #[] 0)).alloc (.cells #[.slice none 0 0,.int .i64 0,.int .i64 0,.map (some w.heap.size)] 117)).heap[w.heap.size+1]? =some (.cells #[.slice none 0 0,.int .i64 0,.int .i64 0,.map (some w.heap.size)] 117 (0,0)):=by
  have:=heap_alloc_new (w.alloc (.map #[] 0)) (.cells #[.slice none 0 0,.int .i64 0,.int .i64 0,.map (some w.heap.size)] 117);simpa using this
 refine ⟨b,?_,by omega,Nat.le_refl _,fun i a=>?_,fun i a=>?_⟩
 ·exact ae ((Below.refl _ _).alloc (Nat.le_refl _) _) (heap_alloc_new w (.map #[] 0))
 ·have:=bm a;simp at this
 ·have:=bm a;simp at this
theorem lX {W:World} {e:TypeId} {x:ByteArray}:Below W.heap.size W (bytesWorld W e x):=
 ⟨by simp [bytesWorld,World.freeze,World.alloc,World.drew, -World.alloc_eq, -World.drew_eq],by simp [bytesWorld,World.freeze,World.alloc,World.drew, -World.alloc_eq, -World.drew_eq],by simp [bytesWorld,World.freeze,World.alloc,World.drew, -World.alloc_eq, -World.drew_eq],by rw [bytesWorld_size];omega,fun k a=>bytesWorld_at_old W e x k a⟩
theorem lF (W:World) (e:TypeId) (x:ByteArray):(Lib.bytesCells W e x).size=grownCap W x.size 0 e:=by
 have:=grownCap_ge W x.size 0 e;simp only [Lib.bytesCells,Array.size_append,Array.size_map,Array.size_replicate];have a:x.data.size=x.size:=rfl;omega
theorem qR (W:World) (e:TypeId) (l:List UInt8):(Lib.bytesCells W e (bs l)).toList.take l.length=Lib.byteCells l:=by
 have a:(bs l).data.toList=l:=aQ l;simp only [Lib.bytesCells,Array.toList_append,Array.toList_map,a,Lib.byteCells];rw [List.take_append_of_le_length (by simp),List.take_of_length_le (by simp)]
theorem zU {s b g k:Nat} {q:Nat→Nat} {p:Value} {S:aa} {w W:World} {l:List UInt8} (h:bf s W b g q p S) (m:Below s w W):
  let v:=Value.slice (some ⟨W.heap.size,0,none⟩) (bs (l.take k)).size (grownCap W (bs (l.take k)).size 0 5)
  let a:=(bytesWorld W 5 (bs (l.take k))).setCell ⟨b,0,none⟩ v
  (l.take k).length≤maxLen→bf s a b g q v S∧jU a v (l.take k)∧Below s w a:=by
 intro v a d;have f:=h.keep (lX (e:=5) (x:=bs (l.take k)));have c:aH b (bytesWorld W 5 (bs (l.take k))) a:=(aH.refl _ _).setCell _;have o:=h.pblt;refine ⟨f.timed (T:=S.time) c (heap_setCell_same _ b 0 _ _ v f.bag),⟨W.heap.size,_,_,_,by rw [←aI],aJ c (Lib.bytesWorld_at_new W 5 _) (by omega),fun j n=>?_,?_,?_,?_,?_,?_⟩,?_⟩
 ·have i:a.cell? ⟨W.heap.size,j,none⟩=(bytesWorld W 5 (bs (l.take k))).cell? ⟨W.heap.size,j,none⟩:=World.cell?_of_block (c.2 W.heap.size (by omega));rw [i,bytesWorld_cell _ _ _ _ (by rw [aI];exact n),aQ]
 ·show _≤(Lib.bytesCells W 5 (bs (l.take k))).size;rw [lF];exact Nat.le_refl _
 ·rw [←aI];exact grownCap_ge _ _ _ _
 ·exact grownCap_le_maxLen _ _ _ _ (by rw [aI];exact d)
 ·exact lF _ _ _
 ·exact qR _ _ _
 ·exact (m.trans (lX.mono h.le)).trans (c.below h.pbb)
theorem Dl {l:List UInt8} {c:List UInt8×List UInt8} (h:l7 l=some c):c.2=l.drop (8+c.1.length):=by
 rw [CM] at h
 split at h
 ·cases h
 ·rename_i b
  cases h
  have a:((l.drop 8).take (be (l.take 4))).length=be (l.take 4):=by rw [List.length_take,List.length_drop];omega
  simp only;rw [a,List.drop_drop]
theorem yD (l:List UInt8) (n:Int) (w:World) (hl:l.length≤1048576) (hm:w.cell? ⟨0,0,none⟩=some (.int .i64 n)):
  Calls Tryz.prog 44 #[.string (bs l)] w fun e E=>∃pb mb q vr,e= .returned (.pointer (some ⟨pb,0,none⟩))∧bf w.heap.size E pb mb q vr (fR l).1∧(fR l).1.Ok∧jU E vr (l.take (fR l).2)∧(∀g,vr.ownBlock=some g→w.heap.size≤g)∧Below w.heap.size w E:=by
 obtain ⟨X,j⟩:∃X:World,(w.alloc (.map #[] 0)).alloc (.cells #[.slice none 0 0,.int .i64 0,.int .i64 0,.map (some w.heap.size)] 117)=X:=⟨_,rfl⟩;have I:Hid (bf w.heap.size X (w.heap.size+1) w.heap.size (fun _=>0) (.slice none 0 0) ⟨[],0⟩):=Lib.hid (by rw [←j];exact bf.nil);have H:Hid (Below w.heap.size w X):=Lib.hid (by rw [←j];exact ((Below.refl _ _).alloc (Nat.le_refl _) _).alloc (by simp) _);have sl:=aI l;have a6:=Lib.hid j;have HM:=Lib.hid hm;have b2:=@run_makeMap Tryz.prog;have b1:∀(W:World) (x:ByteArray),(convert 9 114 (.string x)).run Tryz.prog W= .ok (.slice (some ⟨W.heap.size,0,none⟩) x.size (grownCap W x.size 0 5)) (bytesWorld W 5 x):=fun W x=>Lib.run_convert_string_bytes W _ _ _ x Tryz.underlying9 Tryz.underlying114 Tryz.underlying5;clear j hm;go_enter Tryz.func44,Tryz.ntmps44;go_wp2_with fail
 rw [a6.out];go_loopw [4] (fun v E=>∃(k f:Nat) (S:aa) (q:Nat→Nat),v= .int .i64 k∧k≤l.length∧8 * S.items.length≤k∧Hid (l.length+1≤k+f)∧Hid (S.time≤1000000000)∧Hid S.Ok∧Hid (bf w.heap.size E (w.heap.size+1) w.heap.size q (.slice none 0 0) S)∧Hid (Below w.heap.size w E)∧Hid (fR l=mB f S k (l.drop k))) (fun v _=>l.length - (intOf v).toNat)
 case atStart=>exact ⟨0,l.length+1,⟨[],0⟩,_,rfl,Nat.zero_le _,by simp,Lib.hid (by omega),Lib.hid (by simp),Lib.hid (aa.Ok.nil 0),I,H,Lib.hid rfl⟩
 case round=>
  clear I H;obtain ⟨k,f,S,q,rfl,hk,hS,HF,HT,HO,HS,HB,V⟩:=hrel;obtain ⟨f,rfl⟩:∃g,f=g+1:=⟨f - 1,by have:=HF.out;omega⟩
  obtain ⟨R,M⟩:∃R,l.drop k=R:=⟨_,rfl⟩;have b0:R.length=l.length - k:=by rw [←M,List.length_drop]
  rw [M] at V;have a0:=Lib.hid M;have a1:Hid ((bs l).extract k l.length=bs R):=Lib.hid (by rw [gw,List.take_length,M]);clear M;go_wp2_with fail
  rw [a1.out];refine (B8 R wr (by unfold maxLen;omega)).mono ?_;rintro e Q ⟨rfl,P⟩;have A:Below wr.heap.size wr Q:=P.toBelow (Nat.le_refl _);have T:=Lib.hid (HS.out.keep A);have U:=Lib.hid (HB.out.trans (A.mono HS.out.le));clear P A
  have d:Hid (∀(W:World) (Z:Nat→Nat),bf w.heap.size W (w.heap.size+1) w.heap.size Z (.slice none 0 0) S→∀x:ByteArray,(bytesWorld W 5 x).cell? ⟨w.heap.size+1,0,none⟩=some (.slice none 0 0)∧(bytesWorld W 5 x).frozen? ⟨w.heap.size+1,0,none⟩=false):=Lib.hid (fun W Z i x=>by
   have:=(i.keep (lX (e:=5) (x:=x))).bag
   exact ⟨by rw [Lib.cell_of_heap this];rfl,Lib.frozen_of_heap this 0⟩)
  have J:Hid ((bs l).extract 0 k=bs (l.take k)):=Lib.hid (by rw [gw,List.drop_zero]);have sk:(bs (l.take k)).size=k:=by rw [aI,List.length_take];omega
  cases B:l7 R with
  | none=>
   have a:=Lib.hid (V.out.trans (Gh B));have g0:=fun x=>(d.out Q q T.out x).1;have g1:=fun x=>(d.out Q q T.out x).2;clear B;simp only [lS];go_wp2_with fail
   rw [J.out];obtain ⟨t,u,y⟩:=zU (l:=l) (k:=k) T.out U.out (by rw [List.length_take];unfold maxLen;omega);have p:=U.out;rw [sk] at t u y;refine (mr _ _ _ _ _ _ _ t).mono ?_;rintro e w9 ⟨rfl,F,L,G⟩;have o:=Lib.hid F;have r:=Lib.hid (u.moves fun g a7 z e=>L.cells e (by decide));have s:=Lib.hid (y.trans G);clear F L G t u y;go_wp2_with fail
   go_ret;exact ⟨w.heap.size+1,w.heap.size,q,_,rfl,by rw [a.out];exact o.out,by rw [a.out];exact HO.out,by rw [a.out];exact r.out,fun g e=>(by injection e with e;simp only at e;rw [←e];exact p.size),s.out⟩
  | some c=>
   have a8:=Fa B;obtain ⟨b,c2⟩:=c;simp only at a8;have O:Q.cell? ⟨0,0,none⟩=some (.int .i64 n):=(U.out.cell (by exact aA HM.out)).trans HM.out;have a5:=Lib.hid (yE w.heap.size (w.heap.size+1) w.heap.size q (.slice none 0 0) S b n Q T.out HO.out (by omega) O (by omega));have a2:Hid (S.takes b=none→fR l=(S,k)):=Lib.hid (fun Y=>V.out.trans (Eg B Y))
   have K:Hid (∀h,S.takes b=some h→fR l=mB f h (k+8+b.length) (l.drop (k+8+b.length))∧8 * h.items.length≤k+8+b.length∧h.time≤1000000000):=Lib.hid (fun h Y=>by
    have hz:=Ak Y HT.out;refine ⟨?_,by omega,hz.2⟩
    rw [V.out,Eh B Y]
    rw [show l.drop (k+8+b.length)=c2 by
     have e9:=Dl B;simp only at e9;rw [e9,←a0.out,List.drop_drop]
     congr 1;omega])
   have s1:=aI b;have s2:=aI c2;clear B O;simp only [lS];go_wp2_with fail
   refine a5.out.mono ?_;intro e w2 C;obtain ⟨hT,m⟩:=C;unfold lU at hT;obtain ⟨a9,N⟩:=hT;have B2:=Lib.hid (U.out.trans N);have a4:=Lib.hid m;clear N m
   rcases a9 with ⟨D,rfl,i⟩ | ⟨h,Z,D,rfl,i⟩
   ·have a:=Lib.hid (a2.out D);have g0:=fun x=>(d.out w2 q i x).1;have g1:=fun x=>(d.out w2 q i x).2;have A2:=Lib.hid i;clear D i;go_wp2_with fail
    rw [J.out];obtain ⟨t,u,y⟩:=zU (l:=l) (k:=k) A2.out B2.out (by rw [List.length_take];unfold maxLen;omega);have p:=B2.out;rw [sk] at t u y;refine (mr _ _ _ _ _ _ _ t).mono ?_;rintro e w9 ⟨rfl,F,L,G⟩;have o:=Lib.hid F;have r:=Lib.hid (u.moves fun g a7 z e=>L.cells e (by decide));have s:=Lib.hid (y.trans G);clear F L G t u y;go_wp2_with fail
    go_ret;exact ⟨w.heap.size+1,w.heap.size,q,_,rfl,by rw [a.out];exact o.out,by rw [a.out];exact HO.out,by rw [a.out];exact r.out,fun g e=>(by injection e with e;simp only at e;rw [←e];exact p.size),s.out⟩
   ·have a:=Lib.hid (K.out h D);have a3:=Lib.hid (a4.out h D);have A2:=Lib.hid i;have b3:IntKind.i64.wrap ((l.length:Int) - (c2.length:Int))=((k+8+b.length:Nat):Int):=by rw [IntKind.wrap_i64];omega
    clear D i;go_wp2_with fail
    exact ⟨⟨k+8+b.length,f,h,Z,rfl,by omega,a.out.2.1,Lib.hid (by have:=HF.out;omega),Lib.hid a.out.2.2,a3,A2,B2,Lib.hid a.out.1⟩,by simp only [intOf];omega⟩
def Az (base:Nat) (w:World) (pp:Nat) (l:List UInt8):Prop:=
 ∃pb mb q vr,(∃C:Array Value,w.heap[pp]? =some (.cells C 88 (0,0))∧C[9]? =some (.pointer (some ⟨pb,0,none⟩)))∧bf base w pb mb q vr (fR l).1∧(fR l).1.Ok∧jU w vr (l.take (fR l).2)∧base≤pp∧∀g,vr.ownBlock=some g→base≤g
theorem Az.keep {a c:Nat} {w d:World} {l:List UInt8} (h:Az a w c l) (b:Below w.heap.size w d):Az a d c l:=by
 obtain ⟨n,m,q,o,⟨C,e,k⟩,f,g,i,j⟩:=h;exact ⟨n,m,q,o,⟨C,ae b e,k⟩,f.keep b,g,i.keep b,j⟩
theorem Ei:fR []=(⟨[],0⟩,0):=by kernel_rfl
theorem jU.rowM {w:World} {v:Value} {l:List UInt8} (h:jU w v l):dH w v l:=by
 obtain ⟨g,a,b,z,e,k,_,c,d,f,i,j⟩:=h;exact .inr ⟨g,a,b,z,e,k,.inr c,d,f,i,j⟩
def CB (c:bT) (l:List UInt8) (w:World) (e:Ending) (w':World):Prop:=
 ∃(K:Kn) (E:Nat→Prop) (pp pb mb:Nat) (q:Nat→Nat) (vr:Value),K.tk= .pointer none∧e= .returned (.tuple #[.pointer (some ⟨pp,0,none⟩),.int .i64 0])∧dG E pp pb mb c w' q vr (fR l).1 (l.take (fR l).2) (.slice none 0 0) []∧(fR l).1.Ok∧(∀k,E k→xu k∨w.heap.size≤k)∧(∀k,an w' pb mb q vr (fR l).1 k→w.heap.size≤k)∧Below w.heap.size w w'
theorem D7 (c:bT) (G H I J:Value) (l:List UInt8) (w:World) (h:jD w c G H I J) (hz:ym c) (d:iL c=true) (hg:iu w) (hl:l.length≤1048576):
  Calls Tryz.prog 18 #[.agg #[.string c.host,G,H,I,.int .i64 c.most,.int .i64 c.size,J,.int .i64 c.life,.int .i64 c.room],.string (bs l)] w (CB c l w):=by
 obtain ⟨M,t⟩:∃M:World,w.alloc (.cells #[.string c.host,G,H,I,.int .i64 c.most,.int .i64 c.size,J,.int .i64 c.life,.int .i64 c.room] 30)=M:=⟨_,rfl⟩;have Q:Below w.heap.size w M:=by rw [←t];exact (Below.refl _ _).alloc (Nat.le_refl _) _
 obtain ⟨m,hm⟩:=hg.len;have b0:=aA hm;have m0:M.cell? ⟨0,0,none⟩=some (.int .i64 m):=(Q.cell (by exact b0)).trans hm;have a2:=Lib.hid (Di c G H I J m M (h.below Q) hz m0);have R:=Lib.hid Q;have HM:=Lib.hid m0;have HG:=Lib.hid hg;have a7:=Lib.hid t;have a8:Hid (M.heap[w.heap.size]? =some (.cells #[.string c.host,G,H,I,.int .i64 c.most,.int .i64 c.size,J,.int .i64 c.life,.int .i64 c.room] 30 (0,0))):=Lib.hid (by rw [←t];exact heap_alloc_new w _);have a1:=Lib.hid (h.below Q);have a4:=Lib.hid d;clear Q m0 t h hm hg;go_enter Tryz.func18,Tryz.ntmps18;go_wp2_with fail
 rw [a7.out];refine a2.out.mono ?_;intro e j hE;obtain ⟨he,n⟩:=hE;subst he;have B2:=Lib.hid (R.out.trans (n.mono R.out.size));rw [d];simp only [Iq];have m2:j.cell? ⟨0,0,none⟩=some (.int .i64 m):=(n.cell (by exact aA HM.out)).trans HM.out;have T:=Lib.hid m2;have p:=ae n a8.out;have y0:j.cell? ⟨w.heap.size,0,none⟩=some (.string c.host):=by rw [Lib.cell_of_heap p];rfl
 have y1:j.cell? ⟨w.heap.size,1,none⟩=some G:=by rw [Lib.cell_of_heap p];rfl
 have y2:j.cell? ⟨w.heap.size,2,none⟩=some H:=by rw [Lib.cell_of_heap p];rfl
 have y3:j.cell? ⟨w.heap.size,3,none⟩=some I:=by rw [Lib.cell_of_heap p];rfl
 have y4:j.cell? ⟨w.heap.size,4,none⟩=some (.int .i64 c.most):=by rw [Lib.cell_of_heap p];rfl
 have y5:j.cell? ⟨w.heap.size,5,none⟩=some (.int .i64 c.size):=by rw [Lib.cell_of_heap p];rfl
 have y6:j.cell? ⟨w.heap.size,6,none⟩=some J:=by rw [Lib.cell_of_heap p];rfl
 have y7:j.cell? ⟨w.heap.size,7,none⟩=some (.int .i64 c.life):=by rw [Lib.cell_of_heap p];rfl
 have y8:j.cell? ⟨w.heap.size,8,none⟩=some (.int .i64 c.room):=by rw [Lib.cell_of_heap p];rfl
 have S:=Lib.hid (E4 c G H I J j (a1.out.below n) (jQ d));have b3:w.heap.size≤j.heap.size:=B2.out.size;clear d n m2 p;go_wp2_with fail
 refine S.out.mono ?_;rintro e P ⟨uD,uN,uU,uW,rfl,f,F,X⟩;obtain ⟨aD,cD,eD⟩:=aE f.1;obtain ⟨aN,cN,eN⟩:=aE f.2.1;obtain ⟨aU,cU,eU⟩:=aE f.2.2.1;obtain ⟨aW,cW,eW⟩:=aE f.2.2.2;subst eD eN eU eW;have a6:=Lib.hid (yD l m P hl ((F.cell (by exact aA T.out)).trans T.out));have B3:=Lib.hid (B2.out.trans (F.mono b3));have b4:w.heap.size≤P.heap.size:=B3.out.size;have a0:=Lib.hid f;have s:=Lib.hid X;clear F f S y0 y1 y2 y3 y4 y5 y6 y7 y8 X;go_wp2_with fail
 refine a6.out.mono ?_;rintro e a ⟨Z,mb,q,vr,rfl,hA,hO,hR,hG,W⟩;have L:=Lib.hid hA;have a5:=Lib.hid hO;have HR:=Lib.hid hR.rowM;have a3:=Lib.hid hG;have E:=Lib.hid W;clear hA hO hR W hG;go_wp2_with fail
 go_ret2
 obtain ⟨C,O⟩:∃C:Array Value,#[.string c.host,.slice aD c.doms.length cD,.slice aN c.nets.length cN,.slice aU c.users.length cU,.int .i64 c.most,.int .i64 c.size,.slice aW c.waits.length cW,.int .i64 c.life,.int .i64 c.room,.pointer (some ⟨Z,0,none⟩),.slice none 0 0,.pointer none]=C:=⟨_,rfl⟩;rw [O];have X5:=heap_alloc_new a (.cells C 88);have u:Below a.heap.size a (a.alloc (.cells C 88)):=(Below.refl _ _).alloc (Nat.le_refl _) _;have b6:(a.alloc (.cells C 88)).heap.size=a.heap.size+1:=by simp
 obtain ⟨U,a9⟩:∃U:World,a.alloc (.cells C 88)=U:=⟨_,rfl⟩;rw [a9] at X5 u b6 ⊢;have b5:P.heap.size≤a.heap.size:=E.out.size;have B5:Below w.heap.size w U:=(B3.out.trans (E.out.mono b4)).trans (u.mono (by omega));have V:Below P.heap.size P U:=E.out.trans (u.mono b5)
 obtain ⟨D,hD⟩:∃D:Nat→Int×Int,∀i,i∈(fR l).1.live→∃v,dD a (q i) ((fR l).1.mailOf i).time ((fR l).1.mailOf i).frm v ((fR l).1.mailOf i).body (D i):=Classical.axiomOfChoice (r:=fun (i:Nat) (x:Int×Int)=>i∈(fR l).1.live→∃v,dD a (q i) ((fR l).1.mailOf i).time ((fR l).1.mailOf i).frm v ((fR l).1.mailOf i).body x) (fun i=>by
  by_cases A:i∈(fR l).1.live
  ·obtain ⟨_,v,x,b,_⟩:=L.out.mail i A;exact ⟨x,fun _=>⟨v,b⟩⟩
  ·exact ⟨(0,0),fun e=>absurd e A⟩)
 let K:Kn:=⟨D,(fR l).1.items.length,.pointer none⟩
 have y:eJ a Z mb q vr (fR l).1 (l.take (fR l).2):=⟨L.out.mono (Nat.zero_le _),HR.out,fun i A=>by
  obtain ⟨v,b⟩:=hD i A;have e:bQ (fR l).1 i=D i:=if_pos (bm A)
  exact ⟨_,b,by rw [e];rfl,by rw [e];rfl⟩,Nat.le_refl _⟩
 have B:∀k,an a Z mb q vr (fR l).1 k→P.heap.size≤k∧k < a.heap.size:=fun k e=>⟨by
  rcases e with (e | e | ⟨i,A,e | ⟨D,z,N,Y⟩⟩) | e
  ·rw [e];exact L.out.pbb
  ·rw [e];exact L.out.mbb
  ·rw [e];exact (L.out.mail i A).1
  ·obtain ⟨_,v,x,b,cc⟩:=L.out.mail i A;unfold dD at b;rw [b] at N;injection N with N;injection N with N;rw [←N] at Y;have Y:v.ownBlock=some k:=Y;exact (cc.lt k Y).1
  ·exact a3.out k e,an.lt y e⟩
 obtain ⟨b1,b2⟩:=y.chg (aF.below u:aF (fun _=>False) a U) (fun _ _ e=>e);have o:∀k,xu k→k < w.heap.size:=fun k e=>HG.out.lt e;refine ⟨K,fun k=>xu k∨k=a.heap.size∨(Value.slice aD c.doms.length cD).ownBlock=some k∨(Value.slice aN c.nets.length cN).ownBlock=some k∨(Value.slice aU c.users.length cU).ownBlock=some k∨(Value.slice aW c.waits.length cW).ownBlock=some k,a.heap.size,Z,mb,q,vr,rfl,rfl,⟨⟨_,_,_,_,⟨⟨C,X5,by rw [←O];rfl⟩,a0.out.below V,a4.out⟩,fun k e=>⟨.inr (.inr e),by have:=s.out k e;omega⟩⟩,HG.out.below B5,fun k e=> .inl e,fun e=>by have:=o _ e;omega,.inr (.inl rfl),fun k e=>?_,⟨C,X5,by rw [←O];rfl,by rw [←O];rfl,by rw [←O];rfl,by rw [←O];rfl⟩,b1,World.ownsRow_nil _ _ _ _,fun k e x=>?_,fun g e=>by cases e⟩,a5.out,fun k e=>?_,fun k e=>by have:=B k (b2 k e);omega,B5⟩
 ·rcases e with e | e | e
  ·have:=o k e;omega
  ·omega
  ·have:=s.out k e;omega
 ·have hk:=B k (b2 k x)
  rcases e with e | e | e
  ·have:=o k e;omega
  ·omega
  ·have:=s.out k e;omega
 ·rcases e with e | e | e
  ·exact .inl e
  ·exact .inr (by omega)
  ·exact .inr (by have:=s.out k e;omega)
theorem yx (s:ByteArray) (m:Int) (w:World) (g:s.size≤140737488355328) (d:w.cell? ⟨0,0,none⟩=some (.int .i64 m)):
  Calls Tryz.prog 86 #[.string s] w (js s.data.toList w):=by
 go_enter Tryz.func86,Tryz.ntmps86;go_wp2_with fail
 refine (tA s m _ g d).mono ?_;rintro e h ⟨x,y,f,rfl,a,c⟩;have b:=Lib.hid a;clear a;go_wp2_with fail
 go_ret3
 exact js.mk _ _ _ rfl b.out c
end Go.Proofs.YtofpegbpgkkgkaaGreatDoor
