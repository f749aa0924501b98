import Derived.Test.YtofpegbpgkkgkaaGreatDoorS12
import Derived.Test.YtofpegbpgkkgkaaGreatDoorS08
import Derived.Lib.SlBytesConst
import Derived.Lib.DecodeN
import Derived.Lib.LaidTab
import Derived.WalkSmall
import Derived.Conc.SmallLaws
import Derived.Maps.RangeRun
import Derived.Orders
import Derived.Sort.OwnSortedInts
import Derived.Lib.Join
namespace Go.Proofs.YtofpegbpgkkgkaaGreatDoor
set_option maxHeartbeats 8000000
set_option maxRecDepth 1000000
open Go.RowKit
theorem Er {a b:Int} (h:a=b):Ending.returned (.int .u32 a)= .returned (.int .u32 b):=by rw [h]
theorem sI (w:World):Calls Tryz.prog 217 #[.int .u32 545503469] w fun e a=>e= .returned (.int .u32 3988292384)∧w=a:=by
 go_enter Tryz.func217,Tryz.ntmps217;go_wp2_with fail
 go_ret;exact ⟨Er (by decide+kernel),rfl⟩
theorem DC (w:World):Calls Tryz.prog 162 #[.int .u32 79764919] w fun e a=>e= .returned (.int .u32 3988292384)∧w=a:=by
 have b:∀(E:Int) (Q:Ending→World→Prop),E=545503469→(∀e a,e= .returned (.int .u32 3988292384)∧w=a→Q e a)→Calls Tryz.prog 217 #[.int .u32 E] w Q:=fun E Q c h=>by
  subst c;exact (sI w).mono h
 go_enter Tryz.func162,Tryz.ntmps162;go_wp2_with fail
 refine b _ _ (by decide+kernel) ?_;rintro e a ⟨rfl,rfl⟩;go_wp2_with fail
 go_ret;exact ⟨rfl,rfl⟩
theorem Cw {D:Nat} (h:D < 2 ^ 32):bits .xor .u32 ((D:Int) / 2) (bits .and .u32 (D:Int) 1 * 3988292384 % 4294967296)=((mP D:Nat):Int):=by
 have a:bits .and .u32 (D:Int) 1=((D % 2:Nat):Int):=by
  rw [show (1:Int)=((1:Nat):Int) from rfl,(bits_nat .u32 32 (by decide) od D 1 h (by decide)).1,Nat.and_one_is_mod]
 have b:((D:Int) / 2)=((D / 2:Nat):Int):=by omega
 rw [a,b]
 have c:(((D % 2:Nat):Int) * 3988292384 % 4294967296)=(((if D % 2=1 then Im else 0):Nat):Int):=by
  unfold Im
  split <;> omega
 rw [c,lJ .u32 32 (by decide) od _ _ (by omega) (by split <;> decide)]
 rfl
theorem Jr {C:Nat} (h:C < 2 ^ 32):bits .xor .u32 4294967295 (C:Int)=((4294967295 - C:Nat):Int):=by
 rw [show (4294967295:Int)=((4294967295:Nat):Int) from rfl,lJ .u32 32 (by decide) od _ _ (by decide) h]
 congr 1
 have:=BitVec.toNat_not (x:=BitVec.ofNat 32 C);have e:(BitVec.ofNat 32 C).toNat=C:=by rw [BitVec.toNat_ofNat];exact Nat.mod_eq_of_lt h
 rw [e] at this
 have x: ~~~(BitVec.ofNat 32 C)=BitVec.allOnes 32 ^^^ BitVec.ofNat 32 C:=by
  rw [BitVec.allOnes_xor]
 rw [x,BitVec.toNat_xor,e] at this;simpa using this
theorem Mh (s:ByteArray) (w:World) (r:s.size≤maxLen):Calls Tryz.prog 113 #[.string s] w fun e o=>e= .returned (.int .u32 (sV s.data.toList))∧w=o:=by
 unfold maxLen at r;go_enter Tryz.func113,Tryz.ntmps113;go_wp2_with fail
 refine (DC _).mono ?_;rintro e o ⟨rfl,rfl⟩;go_wp2_with fail
 go_loop [4,10] (fun c i=>∃k C:Nat,k≤s.size∧i= .int .i64 k∧c= .int .u32 C∧Hid (C < 2 ^ 32)∧Hid (C=Ao 4294967295 (s.data.toList.take k))) (fun _ i=>s.size - (intOf i).toNat)
 case atStart=>exact ⟨0,4294967295,Nat.zero_le _,rfl,rfl,Lib.hid (by decide),rfl⟩
 case round=>
  obtain ⟨k,C,v,rfl,rfl,d,f⟩:=hrel
  by_cases m:k < s.size
  ·go_wp2_with fail
   go_loop [4,19] (fun c i=>∃j D:Nat,j≤8∧i= .int .i64 j∧c= .int .u32 D∧Hid (D=jq j (C ^^^ s[k].toNat))) (fun _ i=>8 - (intOf i).toNat)
   case atStart=>
    refine ⟨0,C ^^^ s[k].toNat,by omega,rfl,?_,rfl⟩
    have t:=s[k].toNat_lt;rw [show ((s[k].toNat:Int) % 4294967296)=((s[k].toNat:Nat):Int) by omega,lJ .u32 32 (by decide) od _ _ d.out (by omega)]
   case round=>
    obtain ⟨j,D,u,rfl,rfl,g⟩:=hrel;have a:Hid (D < 2 ^ 32):=Lib.hid (by rw [g.out];exact tZ j (Nat.xor_lt_two_pow d.out (by have:=s[k].toNat_lt;omega)))
    by_cases q:j < 8
    ·go_wp2_with fail
     refine ⟨⟨j+1,mP D,by omega,by go_num,?_,Lib.hid (by rw [g.out,pG])⟩,by simp [intOf];omega⟩
     rw [Cw a.out]
    ·have h:j=8:=by omega
     subst h;go_wp2_with fail
     refine ⟨⟨k+1,D,by omega,by go_num,rfl,a,Lib.hid ?_⟩,by simp [intOf];omega⟩
     rw [g.out,f.out,Cy _ _ k (by simpa using m),Cx];rfl
  ·have l:k=s.size:=by omega
   subst l;have p:=d.out
   have n:sV s.data.toList=4294967295 - C:=by
    unfold sV;rw [f.out,List.take_of_length_le (by simp)]
   have b:=Jr p;clear d f;go_wp2_with fail
   go_ret;refine ⟨Er ?_,rfl⟩;rw [show IntKind.u32.max=4294967295 from rfl];exact b
def ji (l:List UInt8):Option (List UInt8×List UInt8):=
 (fZ 4 l).bind fun a=>(fZ 4 a.2).bind fun b=>(bm a.1 b.2).bind fun c=>if sV c.1=b.1 then some c else none
def mI (o:Option (List UInt8×List UInt8)):Value:=
 match o with
 | some c=> .tuple #[.string (bs c.1),.string (bs c.2),.bool true]
 | none=> .tuple #[.string (bs []),.string (bs []),.bool false]
theorem Jb {w:World} {b:Nat} {o:Option (List UInt8)} {l:List UInt8} (h:gG w b o) (e:o=some l):w.cell? ⟨b,0,none⟩=some (.string (bs l))∧w.cell? ⟨b,1,none⟩=some (.bool false):=by
 subst e;exact ⟨by rw [Lib.cell_of_heap h.1];rfl,by rw [Lib.cell_of_heap h.1];rfl⟩
theorem Ja {w:World} {b:Nat} {o:Option (List UInt8)} (h:gG w b o) (e:o=none):w.cell? ⟨b,1,none⟩=some (.bool true):=by
 subst e;obtain ⟨l,h⟩:=h;rw [Lib.cell_of_heap h];rfl
theorem ph {w a c:World} (b:cJ [] w a) (d:aL w.heap.size a c):cJ [] w c:=
 ⟨by rw [d.1];exact b.1,fun k o e n=>by
  rw [d.2 k (by have:=sZ e;omega)];exact b.2 k o e n,b.3.trans d.3⟩
theorem EN (l:List UInt8) {m p s:Option (List UInt8)} {n q:Nat} {C:List UInt8}
  (h:((some l).bind (bm 4)).map (·.2)=m) (j:be (gK ((some l).bind (bm 4)))=n) (f:(m.bind (bm 4)).map (·.2)=p) (k:be (gK (m.bind (bm 4)))=q) (g:(p.bind (bm n)).map (·.2)=s) (o:gK (p.bind (bm n))=C):
  ji l=s.bind fun r=>if sV C=q then some (C,r) else none:=by
 obtain ⟨t,u⟩:=uM 4 (some l);rw [t] at h;rw [u] at j;obtain ⟨v,w⟩:=uM 4 m;rw [v] at f;rw [w] at k;have i:ji l=(fZ 4 l).bind fun a=>(fZ 4 a.2).bind fun b=>(bm a.1 b.2).bind fun c=>if sV c.1=b.1 then some c else none:=rfl;have A:(some l).bind (fZ 4)=fZ 4 l:=rfl;rw [A] at h j
 cases x:fZ 4 l with
 | none=>
  rw [x] at h i;subst h f g;rw [i];rfl
 | some a=>
  rw [x] at h j i;subst h j;have B:((some a).map (·.2)).bind (fZ 4)=fZ 4 a.2:=rfl;rw [B] at f k;have d:ji l=(fZ 4 a.2).bind fun b=>(bm a.1 b.2).bind fun c=>if sV c.1=b.1 then some c else none:=i
  cases y:fZ 4 a.2 with
  | none=>
   rw [y] at f d;subst f g;rw [d];rfl
  | some b=>
   rw [y] at f k d;subst f k;have D:((some b).map (·.2)).bind (bm (((some a).map (·.1)).getD 0))=bm a.1 b.2:=rfl;rw [D] at g o;have e:ji l=(bm a.1 b.2).bind fun c=>if sV c.1=b.1 then some c else none:=d
   cases z:bm a.1 b.2 with
   | none=>
    rw [z] at g e;subst g;rw [e];rfl
   | some c=>
    rw [z] at g o e;subst g o;rw [e];rfl
theorem Dy (l:List UInt8) (w:World) (hl:l.length≤maxLen):
  Calls Tryz.prog 74 #[.string (bs l)] w fun e m=>e= .returned (mI (ji l))∧cJ [] w m:=by
 obtain ⟨q,c⟩:∃q:World,w.alloc (.cells #[.string (bs l),.bool false] 187)=q:=⟨_,rfl⟩;have F:Hid (gG q w.heap.size (some l)):=Lib.hid ⟨by rw [←c];exact heap_alloc_new w _,hl⟩
 have W:Hid (cJ [] w q):=Lib.hid (by rw [←c];exact (cJ.refl _ w).alloc _);have G:=Lib.hid c;clear c
 have I:∀o:Option (List UInt8),be (gK (o.bind (bm 4)))≤4294967295:=fun o=>by
  have s:(gK (o.bind (bm 4))).length≤4:=by
   cases e:o.bind (bm 4) with
   | none=>simp [gK]
   | some x=>
    obtain ⟨l,b,a⟩:=gm e;obtain ⟨y,r⟩:=x;have:=(jH a).2.2.2;show y.length≤4;omega
  have:=sQ s;omega
 obtain ⟨t,J⟩:∃t,((some l).bind (bm 4)).map (·.2)=t:=⟨_,rfl⟩;obtain ⟨g,z⟩:∃g,be (gK ((some l).bind (bm 4)))=g:=⟨_,rfl⟩;obtain ⟨n,K⟩:∃n,(t.bind (bm 4)).map (·.2)=n:=⟨_,rfl⟩;obtain ⟨f,A⟩:∃f,be (gK (t.bind (bm 4)))=f:=⟨_,rfl⟩;obtain ⟨P,L⟩:∃P,(n.bind (bm g)).map (·.2)=P:=⟨_,rfl⟩;obtain ⟨C,v⟩:∃C,gK (n.bind (bm g))=C:=⟨_,rfl⟩;have u:=Lib.hid (EN l J z K A L v);have a1:g≤4294967295:=by rw [←z];exact I _
 have a2:f≤4294967295:=by rw [←A];exact I _
 have a0:C.length≤4294967295:=by
  rw [←v]
  cases e:n.bind (bm g) with
  | none=>simp [gK]
  | some x=>
   obtain ⟨l,b,a⟩:=gm e;obtain ⟨y,r⟩:=x;have:=(jH a).2.2.2;show y.length≤_;omega
 have i:=dZ w.heap.size 4 (some l) q F.out (by decide);have j:=fun m M=>dZ w.heap.size 4 t m M (by decide);have k:=fun m M=>iY w.heap.size g n m M (by unfold maxLen;omega);have d:=fun m=>Mh (bs C) m (by rw [aG];unfold maxLen;omega);rw [J,z] at i;rw [K,A] at j;rw [L,v] at k;rw [aI] at d;have N:sV C≤4294967295:=by unfold sV;omega
 obtain ⟨Q,S⟩:∃Q,sV C=Q:=⟨_,rfl⟩;rw [S] at d N u;have B:=Lib.hid j;have D:=Lib.hid k;have E:=Lib.hid d;have sC:=aG C;clear J z K A L v j k d S I;go_enter Tryz.func74,Tryz.ntmps74;go_wp2_with fail
 rw [G.out];refine i.mono ?_;rintro e w1 ⟨rfl,b,a⟩;have U:=Lib.hid b;have X:=Lib.hid (ph W.out a);clear i b a;go_wp2_with fail
 refine (B.out _ U.out).mono ?_;rintro e w2 ⟨rfl,b,a⟩;have V:=Lib.hid b;have Y:=Lib.hid (ph X.out a);clear b a;go_wp2_with fail
 refine (D.out _ V.out).mono ?_;rintro e w3 ⟨rfl,b,a⟩;have R:=Lib.hid b;have H:=Lib.hid (ph Y.out a);clear b a
 cases P with
 | none=>
  have Z:=Ja R.out rfl;have p:Hid (mI (ji l)= .tuple #[.string (bs []),.string (bs []),.bool false]):=Lib.hid (by rw [u.out];rfl);go_wp2_with fail
  go_ret3
  exact ⟨by rw [p.out];rfl,H.out⟩
 | some r=>
  obtain ⟨c0,Z⟩:=Jb R.out rfl;go_wp2_with fail
  refine (E.out _).mono ?_;rintro e w4 ⟨rfl,rfl⟩;go_wp2_with fail
  ·rename_i h
   have O:¬Q=f:=by simp at h;omega
   have p:Hid (mI (ji l)= .tuple #[.string (bs []),.string (bs []),.bool false]):=Lib.hid (by
    rw [u.out];show mI (if Q=f then some (C,r) else none)=_
    rw [if_neg O];rfl)
   go_ret3
   exact ⟨by rw [p.out];rfl,H.out⟩
  ·have h:((Q:Int) != (f:Int))=false:=by assumption
   have T:Q=f:=by simp at h;omega
   have p:Hid (mI (ji l)= .tuple #[.string (bs C),.string (bs r),.bool true]):=Lib.hid (by
    rw [u.out];show mI (if Q=f then some (C,r) else none)=_
    rw [if_pos T];rfl)
   clear h T;go_quiet (fail)
   go_wp2_with fail
   go_ret3
   exact ⟨by rw [p.out];rfl,H.out.drewN _⟩
def dz:Nat→bp→Nat→List UInt8→bp×Nat
 | 0,S,k,_=>(S,k)
 | f+1,S,k,l=>
  match ji l with
  | none=>(S,k)
  | some c=>match S.takes c.1 with
   | none=>(S,k)
   | some S'=>dz f S' (k+8+c.1.length) c.2
def bw (l:List UInt8):bp×Nat:=dz (l.length+1) ⟨[],0⟩ 0 l
theorem gP {f k:Nat} {S:bp} {l:List UInt8} (h:ji l=none):dz (f+1) S k l=(S,k):=by
 rw [dz,h]
theorem jf {f k:Nat} {S:bp} {l:List UInt8} {c:List UInt8×List UInt8} (h:ji l=some c) (a:S.takes c.1=none):dz (f+1) S k l=(S,k):=by
 rw [dz,h];simp only [a]
theorem fP {f k:Nat} {S a:bp} {l:List UInt8} {c:List UInt8×List UInt8} (h:ji l=some c) (b:S.takes c.1=some a):dz (f+1) S k l=dz f a (k+8+c.1.length) c.2:=by
 rw [dz,h];simp only [b]
theorem pI (l:List UInt8):ji l=if l.length < 8+be (l.take 4)∨¬be ((l.drop 4).take 4)=sV ((l.drop 8).take (be (l.take 4))) then none else some ((l.drop 8).take (be (l.take 4)),(l.drop 8).drop (be (l.take 4))):=by
 have e:(l.drop 4).drop 4=l.drop 8:=by rw [List.drop_drop]
 have g:(l.drop 8).length=l.length - 8:=List.length_drop;unfold ji fZ
 by_cases c:4≤l.length
 ·rw [if_pos c];simp only [sb]
  by_cases a:4≤(l.drop 4).length
  ·rw [if_pos a];simp only [sb];rw [e];unfold bm;rw [List.length_drop] at a;obtain ⟨r,f⟩:∃r,l.drop 8=r:=⟨_,rfl⟩;rw [f] at g ⊢
   by_cases d:be (l.take 4)≤r.length
   ·rw [if_pos d];simp only [sb]
    by_cases b:sV (r.take (be (l.take 4)))=be ((l.drop 4).take 4)
    ·rw [if_pos b,if_neg (by
      rintro (h | h)
      ·omega
      ·exact h b.symm)]
    ·rw [if_neg b,if_pos (.inr (fun h=>b h.symm))]
   ·rw [if_neg d,if_pos (.inl (by omega))];rfl
  ·rw [if_neg a];rw [List.length_drop] at a;rw [if_pos (.inl (by omega))];rfl
 ·rw [if_neg c,if_pos (.inl (by omega))];rfl
theorem uV (S:bp) (K:Nat) (a:List Nat):(S.outs K a).items.length=S.items.length∧(S.outs K a).time=S.time:=by
 unfold bp.outs;simp
theorem yV (S:bp) (m:aX) (a:List Nat) (T:Nat):(S.failed m a T).items.length≤S.items.length+1∧(S.failed m a T).time=T:=by
 unfold bp.failed
 split <;> simp
theorem rY {S d:bp} {l:List UInt8} (h:S.takes l=some d) (f:S.time≤1000000000):d.items.length≤S.items.length+1∧d.time≤1000000000:=by
 cases l with
 | nil=>cases h
 | cons c r=>
  unfold bp.takes at h;simp only at h
  split at h
  ·split at h
   ·rename_i b
    injection h with h;subst h;rw [Bool.and_eq_true] at b;have a:=b.1;unfold qp at a;simp only [Bool.and_eq_true,decide_eq_true_eq] at a;exact ⟨by simp,a.1.1.1.1.1.2⟩
   ·cases h
  ·split at h
   ·split at h
    ·injection h with h;subst h;have:=uV S ((bI r).1 - 1) (bI r).2;exact ⟨by omega,by omega⟩
    ·cases h
   ·split at h
    ·split at h
     ·rename_i b
      injection h with h;subst h;simp only [Bool.and_eq_true,decide_eq_true_eq] at b;have a:=uV S ((bI (r.drop 4)).1 - 1) (bI (r.drop 4)).2;have e:=yV (S.outs ((bI (r.drop 4)).1 - 1) (bI (r.drop 4)).2) (S.mailOf ((bI (r.drop 4)).1 - 1)) (bI (r.drop 4)).2 (be (r.take 4));exact ⟨by omega,by omega⟩
     ·cases h
    ·cases h
theorem ku {l:List UInt8} {c:List UInt8×List UInt8} (h:ji l=some c):l.length=8+c.1.length+c.2.length:=by
 rw [pI] at h
 split at h
 ·cases h
 ·rename_i a
  injection h with h;subst h;simp only [List.length_take,List.length_drop];have:¬l.length < 8+be (l.take 4):=fun e=>a (.inl e);omega
theorem kX (v:Value) (l t:List UInt8) (a:Nat) (w:World) (h:dT w v l) (M:l.length≤536870912) (N:t.length≤1048576) (H:1≤a∧a≤4):
  Calls Tryz.prog 263 #[v,.string (bs t),.int .i64 a] w fun e C=>∃r,e= .returned r∧dT C r (l++(az a t.length++t))∧aH (fun k=>v.ownBlock=some k) w C∧∀k,r.ownBlock=some k→v.ownBlock=some k∨w.heap.size≤k:=by
 have I:=aG t;have D:=Lib.hid (dF v l t.length a w h (by omega) (by omega) H);obtain ⟨E,F,rfl⟩:=h.len;clear h;go_enter Tryz.func263,Tryz.ntmps263;go_wp2_with fail
 refine D.out.mono ?_;rintro e P ⟨O,rfl,f,o,p⟩;have q:(l++az a t.length).length≤536870916:=by rw [List.length_append,bf];omega
 have s:Hid (l++(az a t.length++t)=(l++az a t.length)++t):=Lib.hid (List.append_assoc ..).symm;obtain ⟨b,c⟩:∃b,l++az a t.length=b:=⟨_,rfl⟩;rw [c] at f q s;obtain ⟨z,B,A,J,d,y,u,x⟩:=f.text t (by omega);obtain ⟨K,L,rfl⟩:=f.len;have m:=Lib.hid d;have n:=Lib.hid y;have g:=Lib.hid (o.trans u (fun j G e=>(p j e).elim id (fun e=>absurd G (by omega))));have i:Hid (∀j,(Value.slice z B A).ownBlock=some j→(Value.slice E l.length F).ownBlock=some j∨w.heap.size≤j):=Lib.hid (fun j e=>(x j e).elim (p j) (fun e=> .inr (Nat.le_trans o.size e)));clear f o p d y u x
 go_wp2_with (first
  | (at_builtin;refine iX rfl _ _ 114 9 rfl _ (.slice z B A) (bs t) J rfl rfl m.out ?_)
  | fail)
 go_ret;exact ⟨_,rfl,by rw [s.out];exact n.out,g.out,i.out⟩
theorem rQ (t:List UInt8) (w:World) (c:t.length≤1073741824):
  Calls Tryz.prog 234 #[.string (bs t)] w fun e b=>e= .returned (.int .i64 ((8+t.length:Nat):Int))∧w=b:=by
 have a:=aG t;go_enter Tryz.func234,Tryz.ntmps234;go_wp2_with fail
 go_ret;exact ⟨by congr 1,rfl⟩
theorem JT (l:List UInt8):sV l≤4294967295:=by unfold sV;omega
theorem F9 (t:List UInt8) (w:World) (Q:t.length≤1048576):
  Calls Tryz.prog 173 #[.string (bs t)] w fun e B=>e= .returned (.string (bs (bJ t)))∧Below w.heap.size w B:=by
 have K:=aG t;have F:=Lib.hid (dF (.slice none 0 0) [] t.length 4 w (dT.nil w) (by simp) (by omega) (by omega));have v:Hid (∀W:World,Calls Tryz.prog 113 #[.string (bs t)] W fun e B=>e= .returned (.int .u32 (sV t))∧W=B):=Lib.hid (fun W=>Mh (bs t) W (by unfold maxLen;omega));have q:=JT t;obtain ⟨j,g⟩:∃j,sV t=j:=⟨_,rfl⟩;rw [g] at v q;have x:Hid (bJ t=(az 4 t.length++az 4 j)++t):=Lib.hid (by unfold bJ;rw [g,List.append_assoc]);clear g;go_enter Tryz.func173,Tryz.ntmps173;go_wp2_with fail
 refine F.out.mono ?_;rintro e C ⟨R,rfl,n,h,G⟩;have o:([]++az 4 t.length).length≤4:=by rw [List.nil_append,bf];exact Nat.le_refl _
 rw [List.nil_append] at n o;obtain ⟨b,d⟩:∃b,az 4 t.length=b:=⟨_,rfl⟩;rw [d] at n o x;obtain ⟨M,O,rfl⟩:=n.len;have z:=Lib.hid n;have D:Below w.heap.size w C:=⟨h.still.1,h.still.2.1,h.still.2.2,h.size,fun k A=>h.block k A (fun e=>by cases e)⟩;have m:=Lib.hid D;have y:=Lib.hid G;clear n h G D;go_wp2_with fail
 refine (v.out C).mono ?_;rintro e T ⟨rfl,rfl⟩;have l:=Lib.hid (dF _ b j 4 C z.out (by omega) q (by omega));clear d F v;go_wp2_with fail
 refine l.out.mono ?_;rintro e L ⟨S,rfl,r,i,I⟩;have p:(b++az 4 j).length≤8:=by rw [List.length_append,bf];omega
 obtain ⟨a,c⟩:∃a,b++az 4 j=a:=⟨_,rfl⟩;rw [c] at r p x;have H:=aG a;have J:=r.string;obtain ⟨N,P,rfl⟩:=r.len;have f:bs a++bs t=bs (a++t):=(cE a t).symm;have s:=Lib.hid f
 have E:Below w.heap.size w L:=by
  refine m.out.trans ⟨i.still.1,i.still.2.1,i.still.2.2,i.size,fun k A=>i.block k (Nat.lt_of_lt_of_le A m.out.size) (fun e=>?_)⟩
  rcases y.out k e with e | e
  ·cases e
  ·omega
 have u:=Lib.hid E;clear r i I c E f l;go_wp2_with fail
 go_ret;exact ⟨by rw [x.out,←s.out];rfl,u.out⟩
theorem yF {A:Nat→Prop} {B:Nat} {a b:World} (h:aH A a b) (c:∀k,A k→B≤k) (d:B≤a.heap.size):Below B a b:=
 ⟨h.still.1,h.still.2.1,h.still.2.2,h.size,fun k f=>h.block k (by omega) (fun e=>by have:=c k e;omega)⟩
structure WR (B:Nat) (w w':World) (v:Value) (acc:List UInt8):Prop where
 row:dT w' v acc
 own:∀k,v.ownBlock=some k→B≤k
 below:Below B w w'
theorem WR.le {B:Nat} {w b:World} {v:Value} {a:List UInt8} (h:WR B w b v a) (c:B≤w.heap.size):B≤b.heap.size:=Nat.le_trans c h.below.size
theorem WR.step {B:Nat} {w w' b:World} {v d:Value} {c a:List UInt8} (h:WR B w w' v c) (f:B≤w.heap.size) (j:dT b d a) (g:aH (fun k=>v.ownBlock=some k) w' b) (i:∀k,d.ownBlock=some k→v.ownBlock=some k∨w'.heap.size≤k):WR B w b d a:=
 ⟨j,fun k e=>(i k e).elim (h.own k) (fun e=>Nat.le_trans (h.le f) e),h.below.trans (yF g h.own (h.le f))⟩
theorem vV (l:List (List UInt8)) (h:∀t∈l,t.length≤255):(eE l).length≤256 * l.length:=by
 induction l with
 | nil=>simp [eE]
 | cons t l ih=>
  have b:=ih (fun x a=>h x (List.mem_cons_of_mem _ a));have c:=h t (List.mem_cons_self ..);have e:eE (t::l)=jC t++eE l:=by simp [eE]
  rw [e,List.length_append,jC,List.length_append,bf,List.length_cons];omega
theorem oH (n d:Nat) (f:List UInt8) (a:List (List UInt8)) (c:List UInt8) (v:Value) (w:World) (h:bg w v a.length 1 (cm a)) (hz:dQ ⟨n,d,f,a,c⟩):
  Calls Tryz.prog 233 #[.agg #[.int .i64 n,.int .i64 d,.string (bs f),v,.string (bs c)]] w fun e w'=>e= .returned (.string (bs (k9 ⟨n,d,f,a,c⟩)))∧Below w.heap.size w w':=by
 obtain ⟨z1,z2,z3,z4,z5,z6⟩:=hz;simp only at z1 z2 z3 z4 z5 z6;obtain ⟨L,M,rfl,p⟩:=h.one;have HV:=Lib.hid p;have Q:=Lib.hid z5;obtain ⟨m,q⟩:∃m:World,w.alloc (.cells #[.int .i64 n,.int .i64 d,.string (bs f),.slice L a.length M,.string (bs c)] 45)=m:=⟨_,rfl⟩;have B0:Below w.heap.size w m:=by rw [←q];exact (Below.refl _ _).alloc (Nat.le_refl _) _
 have X0:m.heap[w.heap.size]? =some (.cells #[.int .i64 n,.int .i64 d,.string (bs f),.slice L a.length M,.string (bs c)] 45 (0,0)):=by rw [←q];exact heap_alloc_new w _
 have b7:m.heap.size=w.heap.size+1:=by rw [←q];simp
 have a8:=Lib.run_convert_bytes_const (P:=Tryz.prog) m 114 5 #[.int .u8 77] 1 1 Tryz.underlying114 Tryz.underlying5;have B1:Below m.heap.size m (m.alloc (.cells #[.int .u8 77] 5 (1,2))):=(Below.refl _ _).alloc (Nat.le_refl _) _;have R1:dT (m.alloc (.cells #[.int .u8 77] 5 (1,2))) (.slice (some ⟨m.heap.size,0,none⟩) 1 1) [77]:= .inr ⟨m.heap.size,1,#[.int .u8 77],(1,2),rfl,heap_alloc_new m _,.inr (Nat.le_refl _),Nat.le_refl _,by unfold maxLen;decide,rfl,rfl⟩
 obtain ⟨U,J⟩:∃U:World,m.alloc (.cells #[.int .u8 77] 5 (1,2))=U:=⟨_,rfl⟩;rw [show (#[Value.int .u8 77]:Array Value).size=1 from rfl,J] at a8;rw [J] at R1 B1;rw [b7] at a8 R1;have S1:WR (w.heap.size+1) m U (.slice (some ⟨w.heap.size+1,0,none⟩) 1 1) [77]:=⟨R1,fun k e=>by injection e with e;have e:w.heap.size+1=k:=e;omega,B1.mono (by omega)⟩
 have hf:=aG f;have d3:=aG c;have d2:=Lib.hid X0;have N:=Lib.hid B0;have d1:=Lib.hid q;have y:=Lib.hid S1;have u:∀{W:World},Below (w.heap.size+1) m W→W.heap[w.heap.size]? =some (.cells #[.int .i64 n,.int .i64 d,.string (bs f),.slice L a.length M,.string (bs c)] 45 (0,0)):=fun hb=>(hb.block _ (by omega)).trans X0;have K:Hid (∀W:World,Below (w.heap.size+1) m W→W.heap[w.heap.size]? =some (.cells #[.int .i64 n,.int .i64 d,.string (bs f),.slice L a.length M,.string (bs c)] 45 (0,0))):=Lib.hid (fun W hb=>u hb);have i0:U.cell? ⟨w.heap.size,0,none⟩=some (.int .i64 n):=by rw [Lib.cell_of_heap (K.out _ S1.below)];rfl
 clear h p z5 X0 B0 R1 B1 S1 u J;go_enter Tryz.func233,Tryz.ntmps233;go_wp2_with fail
 refine (dF _ [77] n 4 U y.out.row (by simp) z1 (by omega)).mono ?_;rintro e w2 ⟨v2,rfl,R2,K2,O2⟩;have Y:([77]++az 4 n).length≤5:=by rw [List.length_append];simp only [bf,List.length_cons,List.length_nil];omega
 obtain ⟨A2,E⟩:∃A,[77]++az 4 n=A:=⟨_,rfl⟩;rw [E] at R2 Y;have S2:=y.out.step (by omega) R2 K2 O2;obtain ⟨a2,c2,rfl⟩:=R2.len;have z:=Lib.hid S2;have b0:=Lib.hid E;have i2:w2.cell? ⟨w.heap.size,1,none⟩=some (.int .i64 d):=by rw [Lib.cell_of_heap (K.out _ S2.below)];rfl
 clear R2 K2 O2 S2 E y;go_wp2_with fail
 refine (dF _ A2 d 4 w2 z.out.row (by omega) z2 (by omega)).mono ?_;rintro e w3 ⟨v3,rfl,R3,K3,O3⟩;have Z:(A2++az 4 d).length≤9:=by rw [List.length_append];simp only [bf];omega
 obtain ⟨A3,F⟩:∃A,A2++az 4 d=A:=⟨_,rfl⟩;rw [F] at R3 Z;have S3:=z.out.step (by omega) R3 K3 O3;obtain ⟨a3,c3,rfl⟩:=R3.len;have B:=Lib.hid S3;have b1:=Lib.hid F;have i3:w3.cell? ⟨w.heap.size,2,none⟩=some (.string (bs f)):=by rw [Lib.cell_of_heap (K.out _ S3.below)];rfl
 clear R3 K3 O3 S3 F z;go_wp2_with fail
 refine (kX _ A3 f 1 w3 B.out.row (by omega) (by omega) (by omega)).mono ?_;rintro e w4 ⟨v4,rfl,R4,K4,O4⟩;have a0:(A3++(az 1 f.length++f)).length≤300:=by rw [List.length_append];simp only [List.length_append,bf];omega
 obtain ⟨A4,G⟩:∃A,A3++(az 1 f.length++f)=A:=⟨_,rfl⟩;rw [G] at R4 a0;have S4:=B.out.step (by omega) R4 K4 O4;obtain ⟨a4,c4,rfl⟩:=R4.len;have C:=Lib.hid S4;have b2:=Lib.hid G;have i4:w4.cell? ⟨w.heap.size,3,none⟩=some (.slice L a.length M):=by rw [Lib.cell_of_heap (K.out _ S4.below)];rfl
 clear R4 K4 O4 S4 G B;go_wp2_with fail
 refine (dF _ A4 a.length 1 w4 C.out.row (by omega) (by omega) (by omega)).mono ?_;rintro e w5 ⟨v5,rfl,R5,K5,O5⟩;have a1:(A4++az 1 a.length).length≤301:=by rw [List.length_append];simp only [bf];omega
 obtain ⟨A5,H⟩:∃A,A4++az 1 a.length=A:=⟨_,rfl⟩;rw [H] at R5 a1;have S5:=C.out.step (by omega) R5 K5 O5;obtain ⟨a5,c5,rfl⟩:=R5.len;have b4:=Lib.hid S5;have b3:=Lib.hid H;have i5:w5.cell? ⟨w.heap.size,3,none⟩=some (.slice L a.length M):=by rw [Lib.cell_of_heap (K.out _ S5.below)];rfl
 clear R5 K5 O5 S5 H C;go_wp2_with fail
 go_loopw [3,28] (fun b i w'=>∃k:Nat,k≤a.length∧i= .int .i64 k∧Hid (WR (w.heap.size+1) m w' b (A5++eE (a.take k)))) (fun _ i _=>a.length - (intOf i).toNat)
 case atStart=>
  refine ⟨0,Nat.zero_le _,rfl,Lib.hid ?_⟩;rw [List.take_zero,show eE []=[] from rfl,List.append_nil];exact b4.out
 case round=>
  obtain ⟨k,hk,rfl,o⟩:=hrel
  have b8:(eE (a.take k)).length≤256 * k:=by
   have:=vV (a.take k) (fun t ht=>Q.out t (List.mem_of_mem_take ht));rw [List.length_take] at this;omega
  by_cases r:k < a.length
  ·have c9:(k:Int) < (a.length:Int):=by omega
   obtain ⟨g,c8,rfl,b5,c0⟩:=HV.out k r;rw [eh a k r] at c0;have d0:wr.cell? ⟨g,c8+k,none⟩=some (.string (bs a[k])):=((N.out.trans (o.out.below.mono (by omega))).cell (by exact b5)).trans c0;have HT:Hid (eE (a.take (k+1))=eE (a.take k)++jC a[k]):=Lib.hid (BT a k r);have c1:=Q.out a[k] (List.getElem_mem r);obtain ⟨t,et⟩:∃t,a[k]=t:=⟨_,rfl⟩;rw [et] at d0 HT c1;obtain ⟨l,j⟩:∃l,A5++eE (a.take k)=l:=⟨_,rfl⟩;have X:l.length≤301+256 * k:=by rw [←j,List.length_append];omega
   have HN:Hid (A5++eE (a.take (k+1))=l++(az 1 t.length++t)):=Lib.hid (by rw [HT.out,←List.append_assoc,j];rfl);rw [j] at o;obtain ⟨a6,c6,I⟩:=o.out.row.len;subst I;have x:=Lib.hid (kX _ l t 1 wr o.out.row (by omega) (by omega) (by omega));clear c0 et j HT;go_wp2_with fail
   refine x.out.mono ?_;rintro e w7 ⟨v7,rfl,s,R,S⟩;have T:=o.out.step (by omega) s R S;have D:=Lib.hid T;clear s R S T;go_wp2_with fail
   exact ⟨⟨k+1,by omega,by go_num,by rw [HN.out];exact D⟩,by simp [intOf];omega⟩
  ·have b6:k=a.length:=by omega
   subst b6;rw [List.take_length] at o b8;obtain ⟨l,j⟩:∃l,A5++eE a=l:=⟨_,rfl⟩;have X:l.length≤301+256 * a.length:=by rw [←j,List.length_append];omega
   rw [j] at o
   have hE:k9 ⟨n,d,f,a,c⟩=l++(az 2 c.length++c):=by
    rw [←j,←b3.out,←b2.out,←b1.out,←b0.out];simp [k9,jC]
   obtain ⟨a6,c6,I⟩:=o.out.row.len;subst I;have i6:wr.cell? ⟨w.heap.size,4,none⟩=some (.string (bs c)):=by rw [Lib.cell_of_heap (K.out _ o.out.below)];rfl
   have x:=Lib.hid (kX _ l c 2 wr o.out.row (by omega) (by omega) (by omega));have O:=Lib.hid hE;clear j hE;go_wp2_with fail
   refine x.out.mono ?_;rintro e w7 ⟨v7,rfl,s,R,S⟩;have T:=o.out.step (by omega) s R S;have a9:=s.string;obtain ⟨A7,V⟩:∃A,l++(az 2 c.length++c)=A:=⟨_,rfl⟩;rw [V] at a9 O s;obtain ⟨a7,c7,rfl⟩:=s.len;have D:=Lib.hid T;clear s R S T V;go_wp2_with fail
   go_ret;exact ⟨by rw [O.out];rfl,N.out.trans (D.out.below.mono (by omega))⟩
def tD (b:UInt8):Bool:=decide (b.toNat=0) || decide (b.toNat=10) || decide (b.toNat=13) || decide (126 < b.toNat)
def tE (x:Nat):Bool:=decide (x=0) || decide (x=10) || decide (x=13) || decide (126 < x)
theorem yT (n a b c d:Nat) (h:128≤a):126 < (Lib.decodeN n a b c d).1:=by
 unfold Lib.decodeN;rw [if_neg (by omega)]
 split
 ·split <;> simp only [] <;> omega
 ·split
  ·split <;> simp only [] <;> omega
  ·split
   ·split <;> simp only [] <;> omega
   ·simp
theorem CA (s:ByteArray) (i:Nat) (h:(s.get! i).toNat < 128):Utf8.decode s i=((s.get! i).toNat,1):=by
 rw [Lib.decode_at];unfold Lib.decodeN;rw [if_pos h]
theorem Ax (s:ByteArray) (i:Nat) (h:128≤(s.get! i).toNat):tE (Utf8.decode s i).1=true:=by
 rw [Lib.decode_at];have:=yT (s.size - i) (s.get! i).toNat (s.get! (i+1)).toNat (s.get! (i+2)).toNat (s.get! (i+3)).toNat h;unfold tE;rw [decide_eq_true this,Bool.or_true]
theorem AF (l:List UInt8) (j:Nat) (h:j < l.length):(bs l).get! j=l[j]:=by
 show (bs l).data[j]! =_;have:j < (bs l).data.size:=by have:=aG l;exact (by show j < (bs l).size;omega)
 rw [getElem!_pos (bs l).data j this];simp [bs]
theorem Ej (l:List UInt8):∀(f a:Nat),a≤l.length→l.length≤a+f→(0≤Lib.idxFuncFrom tE true (bs l) f a ↔ (l.drop a).any tD=true)
 | 0,a,h1,h2=>by
  have:a=l.length:=by omega
  subst this;simp [Lib.idxFuncFrom]
 | f+1,a,h1,h2=>by
  have i:=aG l;unfold Lib.idxFuncFrom
  by_cases h:a < l.length
  ·rw [if_pos (by omega)];have e:l.drop a=l[a]::l.drop (a+1):=List.drop_eq_getElem_cons h;have g:=AF l a h
   by_cases b:((bs l).get! a).toNat < 128
   ·rw [CA _ _ b,g];have c:tE l[a].toNat=tD l[a]:=rfl;simp only [];rw [e,List.any_cons,c]
    cases d:tD l[a] with
    | true=>simp
    | false=>
     rw [if_neg (by simp),Bool.false_or];exact Ej l f (a+1) (by omega) (by omega)
   ·have:=Ax (bs l) a (by omega);rw [if_pos this,e,List.any_cons]
    have d:tD l[a]=true:=by
     rw [g] at b;unfold tD;rw [decide_eq_true (show 126 < l[a].toNat by omega),Bool.or_true]
    rw [d,Bool.true_or];exact ⟨fun _=>rfl,fun _=>by omega⟩
  ·have:a=l.length:=by omega
   subst this;rw [if_neg (by omega)];simp
theorem Fa (x:Nat) (w:World) (j:x≤1114111):Calls Tryz.prog 138 #[.int .i32 (x:Int)] w fun e f=>e= .returned (.bool (tE x))∧Below w.heap.size w f:=by
 unfold tE
 by_cases a:x=0
 ·subst a;go_enter Tryz.func138,Tryz.ntmps138;go_wp2_with fail
  go_ret;exact ⟨rfl,Below.refl _ _⟩
 ·by_cases b:x=10
  ·subst b;go_enter Tryz.func138,Tryz.ntmps138;go_wp2_with fail
   go_ret;exact ⟨rfl,Below.refl _ _⟩
  ·by_cases c:x=13
   ·subst c;go_enter Tryz.func138,Tryz.ntmps138;go_wp2_with fail
    go_ret;exact ⟨rfl,Below.refl _ _⟩
   ·rw [decide_eq_false a,decide_eq_false b,decide_eq_false c];have g:((x:Int) == 0)=false:=by rw [beq_eq_false_iff_ne];omega
    have h:((x:Int) == 10)=false:=by rw [beq_eq_false_iff_ne];omega
    have i:((x:Int) == 13)=false:=by rw [beq_eq_false_iff_ne];omega
    have d:decide (126 < x)=decide ((126:Int) < (x:Int)):=by
     rw [Bool.eq_iff_iff,decide_eq_true_eq,decide_eq_true_eq];omega
    rw [d];clear a b c d;go_enter Tryz.func138,Tryz.ntmps138;go_wp2_with fail
    go_ret;exact ⟨rfl,Below.refl _ _⟩

end Go.Proofs.YtofpegbpgkkgkaaGreatDoor
