import Derived.Test.YtofpegbpgkkgkaaGreatDoorS08
import Derived.Test.YtofpegbpgkkgkaaGreatDoorS12
import Derived.Test.YtofpegbpgkkgkaaGreatDoorS10
import Derived.Maps.RangeRun
namespace Go.Proofs.YtofpegbpgkkgkaaGreatDoor
set_option maxHeartbeats 8000000
set_option maxRecDepth 1000000
open Go.RowKit
theorem nV (b:World) (B a n:Nat) (l:List UInt8) (f:l.length=n) (e:∀(j:Nat),j < n→b.cell? ⟨B,j,none⟩=some (.int .u8 ((l.getD j 0).toNat:Int))):
  (convert 114 9 (.slice (some ⟨B,0,none⟩) n a)).run Tryz.prog b= .ok (.string ⟨l.toArray⟩) b:=by
 subst f;refine run_convert_bytes_back (P:=Tryz.prog) b 114 9 5 ⟨B,0,none⟩ a l Tryz.underlying114 Tryz.underlying5 Tryz.underlying9 (fun j c=>?_)
 have d:(Addr.add ⟨B,0,none⟩ j)=⟨B,j,none⟩:=by
  unfold Addr.add;simp <;> omega
 rw [d,e j c,List.getD_eq_getElem?_getD,List.getElem?_eq_getElem c];rfl
theorem CU {a b:Int} (h:a=b):Ending.returned (.int .u32 a)= .returned (.int .u32 b):=by rw [h]
theorem re (w:World):Calls Tryz.prog 217 #[.int .u32 545503469] w fun e a=>e= .returned (.int .u32 3988292384)∧w=a:=by
 go_enter Tryz.func217,Tryz.ntmps217;go_wp2_with fail
 go_ret;exact ⟨CU (by decide+kernel),rfl⟩
theorem Cc (w:World):Calls Tryz.prog 162 #[.int .u32 79764919] w fun e a=>e= .returned (.int .u32 3988292384)∧w=a:=by
 have b:∀(E:Int) (Q:Ending→World→Prop),E=545503469→(∀e a,e= .returned (.int .u32 3988292384)∧w=a→Q e a)→Calls Tryz.prog 217 #[.int .u32 E] w Q:=fun E Q c h=>by
  subst c;exact (re w).mono h
 go_enter Tryz.func162,Tryz.ntmps162;go_wp2_with fail
 refine b _ _ (by decide+kernel) ?_;rintro e a ⟨rfl,rfl⟩;go_wp2_with fail
 go_ret;exact ⟨rfl,rfl⟩
theorem AU {D:Nat} (h:D < 2 ^ 32):bits .xor .u32 ((D:Int) / 2) (bits .and .u32 (D:Int) 1 * 3988292384 % 4294967296)=((lY D:Nat):Int):=by
 have a:bits .and .u32 (D:Int) 1=((D % 2:Nat):Int):=by
  rw [show (1:Int)=((1:Nat):Int) from rfl,(bits_nat .u32 32 (by decide) nh D 1 h (by decide)).1,Nat.and_one_is_mod]
 have b:((D:Int) / 2)=((D / 2:Nat):Int):=by omega
 rw [a,b]
 have c:(((D % 2:Nat):Int) * 3988292384 % 4294967296)=(((if D % 2=1 then Gd else 0):Nat):Int):=by
  unfold Gd
  split <;> omega
 rw [c,kS .u32 32 (by decide) nh _ _ (by omega) (by split <;> decide)]
 rfl
theorem Hg {C:Nat} (h:C < 2 ^ 32):bits .xor .u32 4294967295 (C:Int)=((4294967295 - C:Nat):Int):=by
 rw [show (4294967295:Int)=((4294967295:Nat):Int) from rfl,kS .u32 32 (by decide) nh _ _ (by decide) h]
 congr 1
 have:=BitVec.toNat_not (x:=BitVec.ofNat 32 C);have e:(BitVec.ofNat 32 C).toNat=C:=by rw [BitVec.toNat_ofNat];exact Nat.mod_eq_of_lt h
 rw [e] at this
 have x: ~~~(BitVec.ofNat 32 C)=BitVec.allOnes 32 ^^^ BitVec.ofNat 32 C:=by
  rw [BitVec.allOnes_xor]
 rw [x,BitVec.toNat_xor,e] at this;simpa using this
theorem tB (s:ByteArray) (w:World) (r:s.size≤maxLen):Calls Tryz.prog 113 #[.string s] w fun e o=>e= .returned (.int .u32 (yj s.data.toList))∧w=o:=by
 unfold maxLen at r;go_enter Tryz.func113,Tryz.ntmps113;go_wp2_with fail
 refine (Cc _).mono ?_;rintro e o ⟨rfl,rfl⟩;go_wp2_with fail
 go_loop [4,10] (fun c i=>∃k C:Nat,k≤s.size∧i= .int .i64 k∧c= .int .u32 C∧Hid (C < 2 ^ 32)∧Hid (C=yQ 4294967295 (s.data.toList.take k))) (fun _ i=>s.size - (intOf i).toNat)
 case atStart=>exact ⟨0,4294967295,Nat.zero_le _,rfl,rfl,Lib.hid (by decide),rfl⟩
 case round=>
  obtain ⟨k,C,v,rfl,rfl,d,f⟩:=hrel
  by_cases m:k < s.size
  ·go_wp2_with fail
   go_loop [4,19] (fun c i=>∃j D:Nat,j≤8∧i= .int .i64 j∧c= .int .u32 D∧Hid (D=iU j (C ^^^ s[k].toNat))) (fun _ i=>8 - (intOf i).toNat)
   case atStart=>
    refine ⟨0,C ^^^ s[k].toNat,by omega,rfl,?_,rfl⟩
    have t:=s[k].toNat_lt;rw [show ((s[k].toNat:Int) % 4294967296)=((s[k].toNat:Nat):Int) by omega,kS .u32 32 (by decide) nh _ _ d.out (by omega)]
   case round=>
    obtain ⟨j,D,u,rfl,rfl,g⟩:=hrel;have a:Hid (D < 2 ^ 32):=Lib.hid (by rw [g.out];exact sw j (Nat.xor_lt_two_pow d.out (by have:=s[k].toNat_lt;omega)))
    by_cases q:j < 8
    ·go_wp2_with fail
     refine ⟨⟨j+1,lY D,by omega,by go_num,?_,Lib.hid (by rw [g.out,oM])⟩,by simp [intOf];omega⟩
     rw [AU a.out]
    ·have h:j=8:=by omega
     subst h;go_wp2_with fail
     refine ⟨⟨k+1,D,by omega,by go_num,rfl,a,Lib.hid ?_⟩,by simp [intOf];omega⟩
     rw [g.out,f.out,AW _ _ k (by simpa using m),AV];rfl
  ·have l:k=s.size:=by omega
   subst l;have p:=d.out
   have n:yj s.data.toList=4294967295 - C:=by
    unfold yj;rw [f.out,List.take_of_length_le (by simp)]
   have b:=Hg p;clear d f;go_wp2_with fail
   go_ret;refine ⟨CU ?_,rfl⟩;rw [show IntKind.u32.max=4294967295 from rfl];exact b
def l7 (l:List UInt8):Option (List UInt8×List UInt8):=
 (fU 4 l).bind fun a=>(fU 4 a.2).bind fun b=>(bg a.1 b.2).bind fun c=>if yj c.1=b.1 then some c else none
def lS (o:Option (List UInt8×List UInt8)):Value:=
 match o with
 | some c=> .tuple #[.string (bs c.1),.string (bs c.2),.bool true]
 | none=> .tuple #[.string (bs []),.string (bs []),.bool false]
theorem GZ {w:World} {b:Nat} {o:Option (List UInt8)} {l:List UInt8} (h:gu w b o) (e:o=some l):w.cell? ⟨b,0,none⟩=some (.string (bs l))∧w.cell? ⟨b,1,none⟩=some (.bool false):=by
 subst e;exact ⟨by rw [Lib.cell_of_heap h.1];rfl,by rw [Lib.cell_of_heap h.1];rfl⟩
theorem GY {w:World} {b:Nat} {o:Option (List UInt8)} (h:gu w b o) (e:o=none):w.cell? ⟨b,1,none⟩=some (.bool true):=by
 subst e;obtain ⟨l,h⟩:=h;rw [Lib.cell_of_heap h];rfl
theorem oo {w a c:World} (b:cE [] w a) (d:aH w.heap.size a c):cE [] w c:=
 ⟨by rw [d.1];exact b.1,fun k o e n=>by
  rw [d.2 k (by have:=rE e;omega)];exact b.2 k o e n,b.3.trans d.3⟩
theorem Dm (l:List UInt8) {m p s:Option (List UInt8)} {n q:Nat} {C:List UInt8}
  (h:((some l).bind (bg 4)).map (·.2)=m) (j:be (gy ((some l).bind (bg 4)))=n) (f:(m.bind (bg 4)).map (·.2)=p) (k:be (gy (m.bind (bg 4)))=q) (g:(p.bind (bg n)).map (·.2)=s) (o:gy (p.bind (bg n))=C):
  l7 l=s.bind fun r=>if yj C=q then some (C,r) else none:=by
 obtain ⟨t,u⟩:=ti 4 (some l);rw [t] at h;rw [u] at j;obtain ⟨v,w⟩:=ti 4 m;rw [v] at f;rw [w] at k;have i:l7 l=(fU 4 l).bind fun a=>(fU 4 a.2).bind fun b=>(bg a.1 b.2).bind fun c=>if yj c.1=b.1 then some c else none:=rfl;have A:(some l).bind (fU 4)=fU 4 l:=rfl;rw [A] at h j
 cases x:fU 4 l with
 | none=>
  rw [x] at h i;subst h f g;rw [i];rfl
 | some a=>
  rw [x] at h j i;subst h j;have B:((some a).map (·.2)).bind (fU 4)=fU 4 a.2:=rfl;rw [B] at f k;have d:l7 l=(fU 4 a.2).bind fun b=>(bg a.1 b.2).bind fun c=>if yj c.1=b.1 then some c else none:=i
  cases y:fU 4 a.2 with
  | none=>
   rw [y] at f d;subst f g;rw [d];rfl
  | some b=>
   rw [y] at f k d;subst f k;have D:((some b).map (·.2)).bind (bg (((some a).map (·.1)).getD 0))=bg a.1 b.2:=rfl;rw [D] at g o;have e:l7 l=(bg a.1 b.2).bind fun c=>if yj c.1=b.1 then some c else none:=d
   cases z:bg a.1 b.2 with
   | none=>
    rw [z] at g e;subst g;rw [e];rfl
   | some c=>
    rw [z] at g o e;subst g o;rw [e];rfl
theorem B8 (l:List UInt8) (w:World) (hl:l.length≤maxLen):
  Calls Tryz.prog 74 #[.string (bs l)] w fun e m=>e= .returned (lS (l7 l))∧cE [] w m:=by
 obtain ⟨q,c⟩:∃q:World,w.alloc (.cells #[.string (bs l),.bool false] 187)=q:=⟨_,rfl⟩;have F:Hid (gu q w.heap.size (some l)):=Lib.hid ⟨by rw [←c];exact heap_alloc_new w _,hl⟩
 have W:Hid (cE [] w q):=Lib.hid (by rw [←c];exact (cE.refl _ w).alloc _);have G:=Lib.hid c;clear c
 have I:∀o:Option (List UInt8),be (gy (o.bind (bg 4)))≤4294967295:=fun o=>by
  have s:(gy (o.bind (bg 4))).length≤4:=by
   cases e:o.bind (bg 4) with
   | none=>simp [gy]
   | some x=>
    obtain ⟨l,b,a⟩:=b9 e;obtain ⟨y,r⟩:=x;have:=(jf a).2.2.2;show y.length≤4;omega
  have:=rq s;omega
 obtain ⟨t,J⟩:∃t,((some l).bind (bg 4)).map (·.2)=t:=⟨_,rfl⟩;obtain ⟨g,z⟩:∃g,be (gy ((some l).bind (bg 4)))=g:=⟨_,rfl⟩;obtain ⟨n,K⟩:∃n,(t.bind (bg 4)).map (·.2)=n:=⟨_,rfl⟩;obtain ⟨f,A⟩:∃f,be (gy (t.bind (bg 4)))=f:=⟨_,rfl⟩;obtain ⟨P,L⟩:∃P,(n.bind (bg g)).map (·.2)=P:=⟨_,rfl⟩;obtain ⟨C,v⟩:∃C,gy (n.bind (bg g))=C:=⟨_,rfl⟩;have u:=Lib.hid (Dm l J z K A L v);have a1:g≤4294967295:=by rw [←z];exact I _
 have a2:f≤4294967295:=by rw [←A];exact I _
 have a0:C.length≤4294967295:=by
  rw [←v]
  cases e:n.bind (bg g) with
  | none=>simp [gy]
  | some x=>
   obtain ⟨l,b,a⟩:=b9 e;obtain ⟨y,r⟩:=x;have:=(jf a).2.2.2;show y.length≤_;omega
 have i:=dN w.heap.size 4 (some l) q F.out (by decide);have j:=fun m M=>dN w.heap.size 4 t m M (by decide);have k:=fun m M=>iB w.heap.size g n m M (by unfold maxLen;omega);have d:=fun m=>tB (bs C) m (by rw [aI];unfold maxLen;omega);rw [J,z] at i;rw [K,A] at j;rw [L,v] at k;rw [aQ] at d;have N:yj C≤4294967295:=by unfold yj;omega
 obtain ⟨Q,S⟩:∃Q,yj C=Q:=⟨_,rfl⟩;rw [S] at d N u;have B:=Lib.hid j;have D:=Lib.hid k;have E:=Lib.hid d;have sC:=aI C;clear J z K A L v j k d S I;go_enter Tryz.func74,Tryz.ntmps74;go_wp2_with fail
 rw [G.out];refine i.mono ?_;rintro e w1 ⟨rfl,b,a⟩;have U:=Lib.hid b;have X:=Lib.hid (oo W.out a);clear i b a;go_wp2_with fail
 refine (B.out _ U.out).mono ?_;rintro e w2 ⟨rfl,b,a⟩;have V:=Lib.hid b;have Y:=Lib.hid (oo X.out a);clear b a;go_wp2_with fail
 refine (D.out _ V.out).mono ?_;rintro e w3 ⟨rfl,b,a⟩;have R:=Lib.hid b;have H:=Lib.hid (oo Y.out a);clear b a
 cases P with
 | none=>
  have Z:=GY R.out rfl;have p:Hid (lS (l7 l)= .tuple #[.string (bs []),.string (bs []),.bool false]):=Lib.hid (by rw [u.out];rfl);go_wp2_with fail
  go_ret3
  exact ⟨by rw [p.out];rfl,H.out⟩
 | some r=>
  obtain ⟨c0,Z⟩:=GZ R.out rfl;go_wp2_with fail
  refine (E.out _).mono ?_;rintro e w4 ⟨rfl,rfl⟩;go_wp2_with fail
  ·rename_i h
   have O:¬Q=f:=by simp at h;omega
   have p:Hid (lS (l7 l)= .tuple #[.string (bs []),.string (bs []),.bool false]):=Lib.hid (by
    rw [u.out];show lS (if Q=f then some (C,r) else none)=_
    rw [if_neg O];rfl)
   go_ret3
   exact ⟨by rw [p.out];rfl,H.out⟩
  ·have h:((Q:Int) != (f:Int))=false:=by assumption
   have T:Q=f:=by simp at h;omega
   have p:Hid (lS (l7 l)= .tuple #[.string (bs C),.string (bs r),.bool true]):=Lib.hid (by
    rw [u.out];show lS (if Q=f then some (C,r) else none)=_
    rw [if_pos T];rfl)
   clear h T;go_quiet (fail)
   go_wp2_with fail
   go_ret3
   exact ⟨by rw [p.out];rfl,H.out.drewN _⟩
section
variable {P:Program} (w:World)
theorem gj (t J:TypeId) (h:Nat) (e:TypeId) (i:TypeInfo) (z:Value) (b d:Nat) (Q:P.underlying t=some (.slice e)) (M:P.info? e=some i) (W:i.zero=some z)
  (s:i.size=b) (G:i.bytes=d) (S:z.cells.size=b) (O:0 < b)
  (v:Value) (n:Nat) (K:List Value) (p:w.ownsRow h e b v n K)
  (B:Addr) (m c:Nat) (a:List Value) (I:a.length=m * b) (f:∀j u,a[j]? =some u→w.cell? (B.add j)=some u) (T:∀u∈a,u.oneCell'=true)
  (hm:0 < m) (F:n+m≤maxLen) (o:(n+m) * d≤140737488355328) (y:h≤w.heap.size):
  ∃g x A,(Builtin.append_ #[t,t] J #[v,.slice (some B) m c]).run P w= .ok (.slice (some ⟨g,0,none⟩) (n+m) x) A∧
   A.ownsRow h e b (.slice (some ⟨g,0,none⟩) (n+m) x) (n+m) (K++a)∧((v.ownBlock=some g∧w.grownBy A (some g))∨(g=w.heap.size∧w.grownBy A none)):=by
 obtain ⟨g,x,A,N,X,U,E,h5⟩:=run_append_lies (P:=P) w t J h e i z b d Q M W s G S O v n K p B m c a I f T hm F o y w.heap.size rfl;refine ⟨g,x,A,N,X,?_⟩
 rcases p.2 with ⟨rfl,_⟩ | ⟨D,l,C,rfl,Y,hg,a0,Z,L,R⟩
 ·rcases E with E | E
  ·cases E
  ·exact .inr ⟨E,U⟩
 ·have hb:(Value.slice (some ⟨D,0,none⟩) n l).ownBlock=some D:=rfl;subst s
  by_cases r:n+m≤l
  ·have H:n * i.size+a.length≤C.size:=by rw [I,L,←Nat.add_mul];exact Nat.mul_le_mul_right _ r
   have q:=run_append_room (P:=P) w t J e i Q M D n l C hg B m c a I f T r H;rw [N] at q;injection q with e1 e2;injection e1 with e1 _ _;injection e1 with e1;injection e1 with e1 _;subst e1;exact .inl ⟨rfl,U⟩
  ·subst G;have q:=run_append_grow (P:=P) w t J e i z Q M W ⟨D,0,none⟩ n l K p.1 (p.cells (g:=D) rfl) B m c a I f (by omega) (by simp only [maxLen] at F;omega) (growslice_fits (by omega) o);rw [N] at q;injection q with e1 e2;injection e1 with e1 _ _;injection e1 with e1;injection e1 with e1 _;subst e1;rw [e2];exact .inr ⟨rfl,⟨rfl,rfl,rfl,by simp,fun k V _=>(by first | exact heap_alloc_old w.drew _ k V | exact heap_alloc_old w.drew _ V)⟩⟩
end
theorem jj (P:Program) (g o:Nat) (t:TypeId) (b:Nat×Nat):∀(d:List Value) (i:Nat) (a:Array Value) (w:World),w.heap[g]? =some (.cells a t b)→(b.2≤o+i∨o+i+d.length≤b.1)→o+i+d.length≤a.size→(∀v∈d,v.oneCell'=true)→
  (storeCells ⟨g,o,none⟩ d i).run P w= .ok () (w.setRow g (a.toList.take (o+i)++d++a.toList.drop (o+i+d.length)).toArray)
 | [],i,a,w,hg,_,_,_=>by
  simp only [storeCells,List.append_nil,List.length_nil,Nat.add_zero,List.take_append_drop,Array.toArray_toList];rw [setRow_self w g a t b hg];rfl
 | v::rest,i,a,w,hg,hfz,hl,h1=>by
  have k:o+i < a.size:=by simp at hl;omega
  have f:(⟨g,o,none⟩:Addr).add i=⟨g,o+i,none⟩:=by unfold Addr.add;split <;> simp_all
  have c:w.cell? ⟨g,o+i,none⟩=some a[o+i]:=by simp [World.cell?,hg,k]
  have h:w.frozen? ⟨g,o+i,none⟩=false:=by
   obtain ⟨p,l⟩:=b;simp only [World.frozen?,hg,Bool.and_eq_false_iff,decide_eq_false_iff_not];simp only [List.length_cons] at hfz;omega
  have j:(store ((⟨g,o,none⟩:Addr).add i) v).run P w= .ok () (w.setRow g (a.setIfInBounds (o+i) v)):=by
   rw [f,run_store P w _ v _ (h1 v (by simp)),c];simp [h,setCell_eq_setRow w g (o+i) a t b v hg]
  have n:=jj P g o t b rest (i+1) (a.setIfInBounds (o+i) v) (w.setRow g (a.setIfInBounds (o+i) v)) (setRow_heap w g a _ t _ hg) (by simp only [List.length_cons] at hfz;omega) (by simp at hl ⊢;omega) (fun x m=>h1 x (by simp [m]));simp only [storeCells,Sem.run_bind,j,Result.andThen_ok,n,setRow_setRow]
  congr 3
  have e:=list_seg_step a.toList (o+i) v rest (by simp at hl ⊢;omega);simpa [Array.toList_setIfInBounds,Nat.add_assoc] using e
def dH (w:World) (v:Value) (l:List UInt8):Prop:=
 (v= .slice none 0 0∧l=[])∨∃g cap cur fz,v= .slice (some ⟨g,0,none⟩) l.length cap∧w.heap[g]? =some (.cells cur 5 fz)∧(fz.2≤l.length∨cap≤fz.1)∧l.length≤cap∧cap≤maxLen∧cur.size=cap∧cur.toList.take l.length=Lib.byteCells l
theorem gD (l:List UInt8):(Lib.byteCells l).length=l.length:=by simp [Lib.byteCells]
theorem dH.nil (w:World):dH w (.slice none 0 0) []:= .inl ⟨rfl,rfl⟩
theorem dH.ofF {w:World} {base:Nat} {v:Value} {l:List UInt8} (h:w.ownsRowF base 5 1 v l.length (Lib.byteCells l)):dH w v l:=by
 rcases h.2 with ⟨c,f⟩ | ⟨g,a,b,e,c,_,i,m,j,k,n,d⟩
 ·exact .inl ⟨c,List.length_eq_zero_iff.1 f⟩
 ·exact .inr ⟨g,a,b,e,c,i,.inl (by omega),j,k,by omega,by rw [Nat.mul_one] at d;exact d⟩
theorem dH.len {w:World} {v:Value} {l:List UInt8} (h:dH w v l):∃a c,v= .slice a l.length c:=by
 rcases h with ⟨b,f⟩ | ⟨g,d,e,i,b,_⟩
 ·exact ⟨none,0,by rw [b,f];rfl⟩
 ·exact ⟨_,_,b⟩
theorem dH.tag {w:World} {v:Value} {l:List UInt8} (h:dH w v l) {g:Nat} (a:v.ownBlock=some g):∃b z,w.heap[g]? =some (.cells b 5 z):=by
 rcases h with ⟨c,_⟩ | ⟨i,d,b,f,c,e,_⟩
 ·rw [c] at a;cases a
 ·rw [c] at a;injection a with a;subst a;exact ⟨_,_,e⟩
theorem dH.lt {w:World} {v:Value} {l:List UInt8} (h:dH w v l) {g:Nat} (c:v.ownBlock=some g):g < w.heap.size:=by
 obtain ⟨a,z,b⟩:=h.tag c;exact ah b
theorem dH.chg {A:Nat→Prop} {w d:World} {v:Value} {l:List UInt8} (h:dH w v l) (i:aF A w d) (j:∀g,v.ownBlock=some g→¬A g):dH d v l:=by
 rcases h with h | ⟨g,a,b,e,c,f,r⟩
 ·exact .inl h
 ·exact .inr ⟨g,a,b,e,c,i.some_ f (j g (by rw [c];rfl)),r⟩
theorem dH.below {w a:World} {v:Value} {l:List UInt8} (h:dH w v l) (b:Below w.heap.size w a):dH a v l:=h.chg (aF.below b:aF (fun _=>False) w a) (fun _ _ e=>e)
theorem dH.cell {w:World} {v:Value} {l:List UInt8} (h:dH w v l) {g:Nat} (b:v.ownBlock=some g) (j:Nat) (a:j < l.length):w.cell? ⟨g,j,none⟩=some (.int .u8 ((l.getD j 0).toNat:Int)):=by
 rcases h with ⟨_,c⟩ | ⟨m,d,e,k,c,f,_,_,_,_,i⟩
 ·rw [c] at a;simp at a
 ·rw [c] at b;injection b with b;subst b;rw [Lib.cell_of_heap f,←Array.getElem?_toList,←List.getElem?_take_of_lt a,i,Lib.byteCells,List.getElem?_map,List.getElem?_eq_getElem a,List.getD_eq_getElem?_getD,List.getElem?_eq_getElem a];rfl
theorem dH.cells {w:World} {l:List UInt8} {g n c:Nat} (h:dH w (.slice (some ⟨g,0,none⟩) n c) l):∀j u,(Lib.byteCells l)[j]? =some u→w.cell? ((⟨g,0,none⟩:Addr).add j)=some u:=by
 intro j u d;have a:(⟨g,0,none⟩:Addr).add j=⟨g,j,none⟩:=by unfold Addr.add;split <;> simp_all
 have b:j < l.length:=by have:=(List.getElem?_eq_some_iff.1 d).1;rwa [gD] at this
 rw [a,h.cell rfl j b,←d,Lib.byteCells,List.getElem?_map,List.getElem?_eq_getElem b,List.getD_eq_getElem?_getD,List.getElem?_eq_getElem b];rfl
theorem dH.string {w:World} {v:Value} {l:List UInt8} (h:dH w v l):(convert 114 9 v).run Tryz.prog w= .ok (.string (bs l)) w:=by
 rcases h with ⟨rfl,rfl⟩ | ⟨g,cap,a,b,rfl,c,r⟩
 ·rw [run_convert_bytes_string w 114 9 5 none 0 0 Tryz.underlying114 Tryz.underlying5 Tryz.underlying9];simp [Conv.bytesToString,Sem.run_pure];rfl
 ·exact nV w g cap l.length l rfl (fun j d=>dH.cell (.inr ⟨g,cap,a,b,rfl,c,r⟩) rfl j d)
theorem dH.conv (w:World) (l:List UInt8) (d:l.length≤maxLen):dH (Lib.bytesWorld w 5 (bs l)) (.slice (some ⟨w.heap.size,0,none⟩) (bs l).size (grownCap w (bs l).size 0 5)) l:=by
 have a:=aI l;have b:=grownCap_ge w l.length 0 5;have c:=grownCap_le_maxLen w l.length 0 5 d;refine .inr ⟨w.heap.size,grownCap w l.length 0 5,_,_,by rw [a],Lib.bytesWorld_at_new w 5 (bs l),.inr ?_,b,c,?_,?_⟩
 ·simp only [Lib.bytesCells,a,Array.size_append,Array.size_map,Array.size_replicate];have:(bs l).data.size=l.length:=a;omega
 ·simp only [Lib.bytesCells,a,Array.size_append,Array.size_map,Array.size_replicate];have:(bs l).data.size=l.length:=a;omega
 ·simp only [Lib.bytesCells,Array.toList_append,Array.toList_map];rw [List.take_left' (by simp [bs])];simp [Lib.byteCells,bs]
theorem pC {α:Type} (a b c:List α) {n:Nat} (h:n=a.length+b.length):(a++b++c).take n=a++b:=by
 rw [h,←List.length_append];exact List.take_left
theorem dH.text {w:World} {v:Value} {l:List UInt8} (h:dH w v l) (s:List UInt8) (L:l.length+s.length≤140737488355328):
  ∃a n c B,(Builtin.append_ #[114,9] 114 #[v,.string (bs s)]).run Tryz.prog w= .ok (.slice a n c) B∧dH B (.slice a n c) (l++s)∧aF (fun k=>v.ownBlock=some k) w B∧∀k,(Value.slice a n c).ownBlock=some k→v.ownBlock=some k∨w.heap.size≤k:=by
 obtain ⟨i,H,z,p,A⟩:=info_parts kI;have x:=aI s
 rcases h with ⟨rfl,rfl⟩ | ⟨g,b,f,C,rfl,q,F,Q,J,R,K⟩
 ·obtain ⟨U,B,O,E,q,F⟩:=jA (P:=Tryz.prog) w 0 114 9 114 5 i Tryz.underlying114 Tryz.underlying9 H z p A (.slice none 0 0) 0 [] (World.ownsRowF_nil w 0 5 1) (bs s) (by unfold maxLen;simp at L;omega) (by simp at L;omega) (Nat.zero_le _)
  obtain ⟨a,n,c,rfl⟩:∃a m c,U= .slice a m c:=by
   rcases E.2 with ⟨e,_⟩ | ⟨g,b,f,C,e,_⟩
   ·exact ⟨_,_,_,e⟩
   ·exact ⟨_,_,_,e⟩
  refine ⟨a,n,c,B,O,dH.ofF (base:=0) ?_,aF.grown q,F⟩;have N:[]++Lib.strCells (bs s)=Lib.byteCells s:=by simp [Lib.byteCells,Lib.strCells,bs]
  rw [N,Nat.zero_add,x] at E;exact E
 ·have S:dH w (.slice (some ⟨g,0,none⟩) l.length b) l:= .inr ⟨g,b,f,C,rfl,q,F,Q,J,R,K⟩;have d:Lib.strCells (bs s)=Lib.byteCells s:=by simp [Lib.byteCells,Lib.strCells,bs]
  have t:=gD s;have u:=gD l;have r:Lib.byteCells (l++s)=Lib.byteCells l++Lib.byteCells s:=by simp [Lib.byteCells]
  by_cases j:l.length+s.length≤b
  ·have M:=Lib.run_firstCells_string (P:=Tryz.prog) w 1 (bs s);have y:=jj Tryz.prog g l.length 5 C (Lib.strCells (bs s)) 0 f w q (by rw [d];omega) (by rw [d];omega) (Lib.strCells_oneCell (bs s));simp only [Nat.add_zero,Lib.strCells_length,x] at y;rw [x] at M
   have D:(Builtin.append_ #[114,9] 114 #[.slice (some ⟨g,0,none⟩) l.length b,.string (bs s)]).run Tryz.prog w= .ok (.slice (some ⟨g,0,none⟩) (l.length+s.length) b) (w.setRow g (f.toList.take l.length++Lib.strCells (bs s)++f.toList.drop (l.length+s.length)).toArray):=by
    simp [Builtin.append_,run_underlying Tryz.underlying114,run_underlying Tryz.underlying9,sizeOf,typeInfo,H,p,Builtin.lenOf,x,j,M,Addr.add_lit,y]
   refine ⟨_,_,_,_,D,.inr ⟨g,b,_,C,by rw [List.length_append],setRow_heap w g f _ 5 _ q,by rw [List.length_append];omega,by rw [List.length_append];exact j,J,?_,?_⟩,⟨by simp [World.setRow],fun k _ o=>setRow_other w g k _ (fun e=>o (by rw [e];rfl)),⟨rfl,rfl,rfl⟩⟩,fun k o=> .inl o⟩
   ·simp only [List.size_toArray,List.length_append,List.length_take,List.length_drop,Array.length_toList,d,t];omega
   ·rw [K,d,r,List.length_append];exact pC _ _ _ (by omega)
  ·have D:=Lib.run_append_grow_string (P:=Tryz.prog) w 114 9 114 5 i (.int .u8 0) Tryz.underlying114 Tryz.underlying9 H z ⟨g,0,none⟩ l.length b (Lib.byteCells l) (by rw [p];omega) S.cells (bs s) (by omega) (by omega) (by rw [A];exact growslice_fits (by omega) (by omega));rw [x] at D;have G:=grownCap_ge w (l.length+s.length) b 5;have I:=grownCap_le_maxLen w (l.length+s.length) b 5 (by unfold maxLen;omega);refine ⟨_,_,_,_,D,.inr ⟨w.heap.size,_,_,(0,0),by rw [List.length_append],heap_alloc_new w.drew _,.inl (Nat.zero_le _),by rw [List.length_append];exact G,I,?_,?_⟩,aF.below ((Below.refl w.heap.size w).drew.alloc (Nat.le_refl _) _),fun k o=> .inr (by injection o with o;exact Nat.le_of_eq o)⟩
   ·have T:(Value.int IntKind.u8 0).cells.size=1:=rfl;simp only [Array.size_append,List.size_toArray,size_zeroCells,T,d,t,u];omega
   ·simp only [Array.toList_append,d,r,List.length_append];exact pC _ _ _ (by omega)
theorem dH.one {w W:World} {v:Value} {l:List UInt8} (h:dH w v l) (x:UInt8) (r:Below w.heap.size w W) (T:W.heap[w.heap.size]? =some (.cells #[.int .u8 (x.toNat:Int)] 5 (0,0))) (X:l.length+1≤140737488355328):
  ∃a n c D,(Builtin.append_ #[114,114] 114 #[v,.slice (some ⟨w.heap.size,0,none⟩) 1 1]).run Tryz.prog W= .ok (.slice a n c) D∧dH D (.slice a n c) (l++[x])∧aF (fun k=>v.ownBlock=some k) w D∧∀k,(Value.slice a n c).ownBlock=some k→v.ownBlock=some k∨w.heap.size≤k:=by
 obtain ⟨i,H,B,p,C⟩:=info_parts kI;have d:∀j u,[Value.int .u8 (x.toNat:Int)][j]? =some u→W.cell? ((⟨w.heap.size,0,none⟩:Addr).add j)=some u:=World.news_of_block (cs:=#[.int .u8 (x.toNat:Int)]) (t:=5) (fr:=(0,0)) T;have F:=h.below r;have s:Lib.byteCells (l++[x])=Lib.byteCells l++[.int .u8 (x.toNat:Int)]:=by simp [Lib.byteCells]
 have y:=gD l
 rcases F with ⟨rfl,rfl⟩ | ⟨g,b,m,E,rfl,q,O,Q,K,R,L⟩
 ·obtain ⟨g,b,D,M,N,q⟩:=gj (P:=Tryz.prog) W 114 114 0 5 i (.int .u8 0) 1 1 Tryz.underlying114 H B p C rfl (by decide) (.slice none 0 0) 0 [] ⟨rfl,.inl ⟨rfl,rfl⟩⟩ ⟨w.heap.size,0,none⟩ 1 1 [.int .u8 (x.toNat:Int)] rfl d (by intro u A;simp at A;rw [A];rfl) (by decide) (by unfold maxLen;decide) (by decide) (Nat.zero_le _)
  rcases q with ⟨e,_⟩ | ⟨e,q⟩
  ·cases e
  ·refine ⟨_,_,_,D,M,dH.ofF (base:=0) (World.ownsRowF_of N),(aF.below r:aF _ w W).trans (aF.grown q) (fun k _ e=>by cases e),fun k f=> .inr ?_⟩;injection f with f;have f:g=k:=f;have:=r.size;omega
 ·have S:dH W (.slice (some ⟨g,0,none⟩) l.length b) l:= .inr ⟨g,b,m,E,rfl,q,O,Q,K,R,L⟩
  by_cases o:l.length+1≤b
  ·have U:=run_firstCells_some (P:=Tryz.prog) W 1 1 ⟨w.heap.size,0,none⟩ 1 1 [.int .u8 (x.toNat:Int)] rfl d;have z:=jj Tryz.prog g l.length 5 E [.int .u8 (x.toNat:Int)] 0 m W q (by simp only [List.length_cons,List.length_nil];omega) (by simp only [List.length_cons,List.length_nil];omega) (by intro u A;simp at A;rw [A];rfl);simp only [Nat.add_zero,List.length_cons,List.length_nil,Nat.zero_add] at z
   have J:(Builtin.append_ #[114,114] 114 #[.slice (some ⟨g,0,none⟩) l.length b,.slice (some ⟨w.heap.size,0,none⟩) 1 1]).run Tryz.prog W= .ok (.slice (some ⟨g,0,none⟩) (l.length+1) b) (W.setRow g (m.toList.take l.length++[Value.int .u8 (x.toNat:Int)]++m.toList.drop (l.length+1)).toArray):=by
    simp [Builtin.append_,run_underlying Tryz.underlying114,sizeOf,typeInfo,H,p,Builtin.lenOf,o,U,Addr.add_lit,z]
   refine ⟨_,_,_,_,J,.inr ⟨g,b,_,E,by rw [List.length_append];rfl,setRow_heap W g m _ 5 _ q,by rw [List.length_append];simp only [List.length_cons,List.length_nil];omega,by rw [List.length_append];exact o,K,?_,?_⟩,(aF.below r:aF _ w W).trans (A1:=fun k=>k=g) ⟨by simp [World.setRow],fun k _ f=>setRow_other W g k _ f,⟨rfl,rfl,rfl⟩⟩ (fun k _ e=>by rw [e];rfl),fun k f=> .inl f⟩
   ·simp only [List.size_toArray,List.length_append,List.length_take,List.length_drop,Array.length_toList,List.length_cons,List.length_nil];omega
   ·rw [L,s,List.length_append];exact pC _ _ _ (by simp only [List.length_cons,List.length_nil];omega)
  ·have J:=run_append_grow (P:=Tryz.prog) W 114 114 5 i (.int .u8 0) Tryz.underlying114 H B ⟨g,0,none⟩ l.length b (Lib.byteCells l) (by rw [p];omega) S.cells ⟨w.heap.size,0,none⟩ 1 1 [.int .u8 (x.toNat:Int)] (by rw [p];rfl) d (by omega) (by omega) (by rw [C];exact growslice_fits (by omega) (by omega));have G:=grownCap_ge W (l.length+1) b 5;have I:=grownCap_le_maxLen W (l.length+1) b 5 (by unfold maxLen;omega);refine ⟨_,_,_,_,J,.inr ⟨W.heap.size,_,_,(0,0),by rw [List.length_append];rfl,heap_alloc_new W.drew _,.inl (Nat.zero_le _),by rw [List.length_append];exact G,I,?_,?_⟩,(aF.below r:aF _ w W).trans (aF.below ((Below.refl W.heap.size W).drew.alloc (Nat.le_refl _) _):aF (fun _=>False) _ _) (fun _ _ e=>e.elim),fun k f=> .inr (by injection f with f;have f:W.heap.size=k:=f;have:=r.size;omega)⟩
   ·have V:(Value.int IntKind.u8 0).cells.size=1:=rfl;simp only [Array.size_append,List.size_toArray,size_zeroCells,V,y,List.length_cons,List.length_nil];omega
   ·simp only [Array.toList_append,s,List.length_append];exact pC _ _ _ (by simp only [List.length_cons,List.length_nil];omega)
def fA (w:World) (pb mb:Nat) (q:Nat→Nat) (S:aa) (k:Nat):Prop:=
 k=pb∨k=mb∨∃i∈S.live,k=q i∨∃C z,w.heap[q i]? =some (.cells C 158 z)∧(C.getD 2 undef).ownBlock=some k
theorem fA.keep {w d:World} {c b:Nat} {q:Nat→Nat} {S:aa} (h:∀i∈S.live,d.heap[q i]? =w.heap[q i]?) {k:Nat} (j:fA d c b q S k):fA w c b q S k:=by
 rcases j with e | e | ⟨i,a,e | ⟨C,z,f,g⟩⟩
 ·exact .inl e
 ·exact .inr (.inl e)
 ·exact .inr (.inr ⟨i,a,.inl e⟩)
 ·exact .inr (.inr ⟨i,a,.inr ⟨C,z,by rw [←h i a];exact f,g⟩⟩)
theorem wL {l g d:Nat} {q:Nat→Nat} {F:Value} {S:aa} {w s j p:World} (B:bf l w g d q F S) (G:Below w.heap.size w s) (h:bf l s g d q F S) {m:aR} {Q:Nat} {v:Value} {x:Int×Int} (A:aH g s j) (_:j.heap[g]? =some (.cells #[F,.int .i64 m.time,.int .i64 ((S.items.length:Int)+1),.map (some d)] 117 (0,0)))
  (H:Below j.heap.size j p) (P:j.heap.size≤Q) (y:dD p Q m.time m.frm v m.body x) (N:p.ownsRow j.heap.size 162 2 v m.tos.length (aL (stay m.tos (List.replicate m.tos.length false)))) (O:1≤m.tos.length):
  aF (fun k=>k=g∨k=d) w (ChangeMaps.setBlock p d (.map (cF (fun i=>if i=S.items.length then Q else q i) (S.live++[S.items.length])) (S.items.length+1)))∧∀k,fA (ChangeMaps.setBlock p d (.map (cF (fun i=>if i=S.items.length then Q else q i) (S.live++[S.items.length])) (S.items.length+1))) g d (fun i=>if i=S.items.length then Q else q i) (S.plus m) k→fA w g d q S k∨w.heap.size≤k:=by
 have t:j.heap[d]? =some (.map (cF q S.live) S.items.length):=aJ A h.map (fun e=>by have:=h.map;unfold fP at this;rw [e,h.bag] at this;simp at this);have o:p.heap[d]? =some (.map (cF q S.live) S.items.length):=ae H t;have I:=fN o (.map (cF (fun i=>if i=S.items.length then Q else q i) (S.live++[S.items.length])) (S.items.length+1));have L:j.heap.size=s.heap.size:=A.1;have J:=G.size
 have K:aF (fun k=>k=g∨k=d) w (ChangeMaps.setBlock p d (.map (cF (fun i=>if i=S.items.length then Q else q i) (S.live++[S.items.length])) (S.items.length+1))):=
  (((aF.below G:aF (fun k=>k=g∨k=d) w s).trans (aF.same A) (fun _ _ e=> .inl e)).trans (aF.below H:aF (fun _=>False) _ _) (fun k _ e=>e.elim)).trans (aF.same I) (fun _ _ e=> .inr e)
 refine ⟨K,fun k r=>?_⟩
 rcases r with e | e | ⟨i,n,r⟩
 ·exact .inl (.inl e)
 ·exact .inl (.inr (.inl e))
 ·rw [kJ O] at n;simp only [List.mem_append,List.mem_singleton] at n
  rcases n with n | rfl
  ·have E:i≠S.items.length:=by have:=bm n;omega
   obtain ⟨a,R,T,b,c⟩:=B.mail i n
   have M:=K.some_ b (fun e=>by
    unfold dD at b
    rcases e with e | e
    ·rw [e,B.bag] at b;simp at b
    ·have:=B.map;unfold fP at this;rw [e,this] at b;simp at b)
   simp only [if_neg E] at r
   rcases r with e | ⟨C,z,f,u⟩
   ·exact .inl (.inr (.inr ⟨i,n,.inl e⟩))
   ·refine .inl (.inr (.inr ⟨i,n,.inr ⟨C,z,?_,u⟩⟩));rw [M] at f;rw [←f];exact b
  ·simp only [if_true] at r
   right
   rcases r with e | ⟨C,z,f,u⟩
   ·omega
   ·have D:=aJ I y (fun e=>by unfold dD at y;rw [e,o] at y;simp at y);rw [D] at f;injection f with f;injection f with f _ _;rw [←f] at u;have:=N.lt k u;omega
theorem uk {c k f:Nat} {q:Nat→Nat} {n:Value} {S:aa} {l b j:World} (h:bf c l k f q n S) {m:aR} {Q:Nat} {v:Value} {x:Int×Int} (o:aH k l b) (_:b.heap[k]? =some (.cells #[n,.int .i64 m.time,.int .i64 ((S.items.length:Int)+1),.map (some f)] 117 (0,0)))
  (p:Below b.heap.size b j) (_:b.heap.size≤Q) (g:dD j Q m.time m.frm v m.body x):
  dD (ChangeMaps.setBlock j f (.map (cF (fun i=>if i=S.items.length then Q else q i) (S.live++[S.items.length])) (S.items.length+1))) Q m.time m.frm v m.body x:=by
 have d:b.heap[f]? =some (.map (cF q S.live) S.items.length):=aJ o h.map (fun e=>by have:=h.map;unfold fP at this;rw [e,h.bag] at this;simp at this);have a:j.heap[f]? =some (.map (cF q S.live) S.items.length):=ae p d;exact aJ (fN a _) g (fun e=>by unfold dD at g;rw [e,a] at g;simp at g)
theorem qm (f a l:Nat) (q:Nat→Nat) (C:Value) (S:aa) (m:aR) (v:Value) (w:World) (h:bf f w a l q C S) (B:Nat) (Y:w.ownsRow B 9 1 v m.tos.length (az m.tos)) (Z:dq m) (z:m.id=S.items.length+1) (X:1≤m.tos.length) (hn:S.items.length < 4294967295):
  Calls Tryz.prog 166 #[.pointer (some ⟨a,0,none⟩),.agg (aV m v)] w fun e I=>e= .returned (.tuple #[])∧∃H,bf f I a l H C (S.plus m)∧aF (fun k=>k=a∨k=l) w I∧(∀k,fA I a l H (S.plus m) k→fA w a l q S k∨w.heap.size≤k)∧(∀i∈S.live,H i=q i)∧∃v',dD I (H S.items.length) m.time m.frm v' m.body (m.time,0):=by
 have K:=Lib.hid h;have HV:=Lib.hid Y;have HZ:=Lib.hid Z;have c:∀o:Obj,(w.alloc o).heap[a]? =some (.cells #[C,.int .i64 S.time,.int .i64 S.items.length,.map (some l)] 117 (0,0)):=fun o=>ae ((Below.refl _ w).alloc (Nat.le_refl _) o) h.bag;have c1:∀o:Obj,(w.alloc o).cell? ⟨a,1,none⟩=some (.int .i64 S.time):=fun o=>by rw [Lib.cell_of_heap (c o)];rfl
 have c2:∀o:Obj,(w.alloc o).cell? ⟨a,2,none⟩=some (.int .i64 S.items.length):=fun o=>by rw [Lib.cell_of_heap (c o)];rfl
 have c3:∀o:Obj,(w.alloc o).cell? ⟨a,3,none⟩=some (.map (some l)):=fun o=>by rw [Lib.cell_of_heap (c o)];rfl
 have f1:∀o:Obj,(w.alloc o).frozen? ⟨a,1,none⟩=false:=fun o=>Lib.frozen_of_heap (c o) 1;have f2:∀o:Obj,(w.alloc o).frozen? ⟨a,2,none⟩=false:=fun o=>Lib.frozen_of_heap (c o) 2;have a0:=Lib.hid c;obtain ⟨s,W⟩:∃s,w.heap.size=s:=⟨_,rfl⟩;have R:a≠s:=by have:=h.pblt;omega
 have N:=Lib.hid W;unfold aV;have y:=Lib.hid z;clear h Y Z c W z;go_enter Tryz.func166,Tryz.ntmps166;go_wp2_with fail
 obtain ⟨b,r⟩:∃b:World,(((w.alloc (.cells #[.int .i64 m.id,.int .i64 m.time,.string (bs m.frm),v,.string (bs m.body)] 45)).setCell ⟨a,2,none⟩ (.int .i64 m.id)).setCell ⟨a,1,none⟩ (.int .i64 m.time))=b:=⟨_,rfl⟩;rw [r];obtain ⟨t,j⟩:∃t:World,w.alloc (.cells #[.int .i64 m.id,.int .i64 m.time,.string (bs m.frm),v,.string (bs m.body)] 45)=t:=⟨_,rfl⟩;have D:Below w.heap.size w t:=by rw [←j];exact (Below.refl _ _).alloc (Nat.le_refl _) _
 have J:bf f t a l q C S:=K.out.keep D;have V:t.heap[w.heap.size]? =some (.cells #[.int .i64 m.id,.int .i64 m.time,.string (bs m.frm),v,.string (bs m.body)] 45 (0,0)):=by rw [←j];exact heap_alloc_new w _
 have E:aH a t b:=by rw [←r,j];exact ((aH.refl a t).setCell _).setCell _
 have P:b.heap[a]? =some (.cells #[C,.int .i64 m.time,.int .i64 ((S.items.length:Int)+1),.map (some l)] 117 (0,0)):=by
  rw [←r,j];have:=heap_setCell_same _ a 1 _ _ (.int .i64 m.time) (heap_setCell_same t a 2 _ _ (.int .i64 m.id) J.bag);refine Eq.trans this ?_;rw [y.out];rfl
 have u:b.heap[w.heap.size]? =some (.cells #[.int .i64 m.id,.int .i64 m.time,.string (bs m.frm),v,.string (bs m.body)] 45 (0,0)):=aJ E V (by rw [N.out];exact fun e=>R e.symm);have d3:b.drew.cell? ⟨a,3,none⟩=some (.map (some l)):=by show b.cell? _=_;rw [Lib.cell_of_heap P];rfl
 have e0:b.drew.cell? ⟨w.heap.size,0,none⟩=some (.int .i64 m.id):=by show b.cell? _=_;rw [Lib.cell_of_heap u];rfl
 have e1:b.drew.cell? ⟨w.heap.size,1,none⟩=some (.int .i64 m.time):=by show b.cell? _=_;rw [Lib.cell_of_heap u];rfl
 have e2:b.drew.cell? ⟨w.heap.size,2,none⟩=some (.string (bs m.frm)):=by show b.cell? _=_;rw [Lib.cell_of_heap u];rfl
 have e3:b.drew.cell? ⟨w.heap.size,3,none⟩=some v:=by show b.cell? _=_;rw [Lib.cell_of_heap u];rfl
 have e4:b.drew.cell? ⟨w.heap.size,4,none⟩=some (.string (bs m.body)):=by show b.cell? _=_;rw [Lib.cell_of_heap u];rfl
 have A:aZ b.drew v m.tos.length 1 (az m.tos):=aC (ax HV.out fun g a1 e _=>aJ (E.drew) (ae D e) (fun e'=>by rw [e',K.out.bag] at e;simp at e));have M:=Lib.hid (qC m v b.drew A HZ.out);have d:=Lib.hid (show b.drew.heap[a]? =_ from P);have p:=Lib.hid E.drew;have n:=Lib.hid J;have O:=Lib.hid (show b.drew.heap[w.heap.size]? =_ from u);have L:=Lib.hid D;clear c1 c2 c3 f1 f2 r j P E J u V D A
 go_region_law (first
  | (go_simp;go_at_call 220;refine M.out.mono ?_;rintro e w2 ⟨Q,g,rfl,F,G,T,x⟩;have a2:w2.cell? ⟨a,3,none⟩=some (.map (some l)):=(by rw [Lib.cell_of_heap (ae x d.out)];rfl);have a3:w2.cell? ⟨w.heap.size,0,none⟩=some (.int .i64 m.id):=(by rw [Lib.cell_of_heap (ae x O.out)];rfl);have a4:=CE (Q:=Q) n.out p.out d.out x y.out hn;have HR:=Lib.hid (n.out.added p.out d.out x G F T X);have U:=Lib.hid (wL K.out L.out n.out p.out d.out x G F T X);have HN:=Lib.hid (uk n.out p.out d.out x G F);clear F G T x))
 all_goals
  refine bodyPost_end (results_none rfl _ _ _) rfl ?_;exact ⟨rfl,_,HR.out,U.out.1,U.out.2,fun i hi=>if_neg (by have:=bm hi;omega),_,by rw [if_pos rfl];exact HN.out⟩
theorem cI {a d c:Nat} {q:Nat→Nat} {l:Value} {S:aa} {w e:World} (h:bf a w d c q l S) (f:Below w.heap.size w e) {k:Nat} (j:fA e d c q S k):fA w d c q S k:=
 fA.keep (fun i g=>f.block _ (by obtain ⟨_,_,_,b,_⟩:=h.mail i g;exact ah b)) j
def kD (w w':World) (q:Nat→Nat) (L:List Nat):Prop:=
 ∀i∈L,∀C,w.heap[q i]? =some (.cells C 158 (0,0))→∃C',w'.heap[q i]? =some (.cells C' 158 (0,0))∧C'[4]? =C[4]? ∧C'[5]? =C[5]?
structure dT (pb mb:Nat) (q q':Nat→Nat) (S S':aa) (w w':World):Prop where
 chg:aF (fA w pb mb q S) w w'
 own:∀k,fA w' pb mb q' S' k→fA w pb mb q S k∨w.heap.size≤k
theorem dT.trans {b a:Nat} {q g i:Nat→Nat} {S c d:aa} {w j l:World} (h:dT b a q g S c w j) (f:dT b a g i c d j l):dT b a q i S d w l:=
 ⟨h.chg.trans f.chg (fun k m e=>(h.own k e).elim id (fun e=>by omega)),fun k e=>(f.own k e).elim (h.own k) (fun e=> .inr (Nat.le_trans h.chg.size e))⟩
theorem dT.after {a d c:Nat} {q g:Nat→Nat} {l:Value} {S f:aa} {w i j:World} (h:bf a w d c q l S) (b:Below w.heap.size w i) (t:dT d c q g S f i j):dT d c q g S f w j:=
 ⟨(aF.below b).trans t.chg (fun _ _ e=>cI h b e),fun k e=>(t.own k e).imp (cI h b) (fun e=>Nat.le_trans b.size e)⟩
theorem dT.refl {pb a:Nat} {q:Nat→Nat} {S:aa} {w:World}:dT pb a q q S S w w:=⟨aF.refl _ _,fun _ e=> .inl e⟩
theorem kD.after {q:Nat→Nat} {L:List Nat} {w a b:World} (d:Below w.heap.size w a) (h:kD a b q L):kD w b q L:=fun i e C c=>h i e C (ae d c)
theorem kD.trans {q:Nat→Nat} {L a:List Nat} {w c d:World} (h:kD w c q L) (g:kD c d q a) (r:∀i∈a,i∈L):kD w d q a:=fun i b C p=>by
 obtain ⟨e,j,l,m⟩:=h i (r i b) C p;obtain ⟨f,k,n,o⟩:=g i b e j;exact ⟨f,k,n.trans l,o.trans m⟩
def iM (w:World) (q:Nat→Nat) (L:List Nat) (D:Nat→Int×Int):Prop:=
 ∀i∈L,∃C,w.heap[q i]? =some (.cells C 158 (0,0))∧C[4]? =some (.int .i64 (D i).1)∧C[5]? =some (.int .i64 (D i).2)
def rb (n T:Nat) (D:Nat→Int×Int) (i:Nat):Int×Int:=if i < n then D i else (T,0)
theorem kD.due {w c:World} {q:Nat→Nat} {L a:List Nat} {D:Nat→Int×Int} (h:kD w c q a) (n:∀i∈a,i∈L) (m:iM w q L D):iM c q a D:=fun i b=>by
 obtain ⟨C,e,g,j⟩:=m i (n i b);obtain ⟨d,f,k,l⟩:=h i b C e;exact ⟨d,f,k.trans g,l.trans j⟩
theorem iM.below {w a:World} {q:Nat→Nat} {L:List Nat} {D:Nat→Int×Int} (f:iM w q L D) (e:Below w.heap.size w a):iM a q L D:=fun i g=>by
 obtain ⟨C,b,c,d⟩:=f i g;exact ⟨C,ae e b,c,d⟩
theorem iM.new {w:World} {q:Nat→Nat} {L:List Nat} {D:Nat→Int×Int} {n T:Nat} (f:iM w q L D) (b:∀i∈L,i < n):iM w q L (rb n T D):=fun i a=>by
 obtain ⟨C,c,d,e⟩:=f i a;exact ⟨C,c,by unfold rb;rw [if_pos (b i a)];exact d,by unfold rb;rw [if_pos (b i a)];exact e⟩
theorem wv {c j m T:Nat} {q:Nat→Nat} {r:Value} {S:aa} {w d:World} (h:bf c w j m q r S) (l:aH j w d):dT j m q q S ⟨S.items,T⟩ w d∧kD w d q S.live:=by
 have a:∀i∈S.live,d.heap[q i]? =w.heap[q i]? :=fun i b=>by
  obtain ⟨_,v,x,f,_⟩:=h.mail i b;exact l.2 _ (fun e=>by unfold dD at f;rw [e,h.bag] at f;simp at f)
 refine ⟨⟨(aF.same l).mono (fun _ _ e=> .inl e),fun k g=> .inl ?_⟩,fun i b C p=>⟨C,(a i b).trans p,rfl,rfl⟩⟩
 rcases g with e | e | ⟨i,b,g⟩
 ·exact .inl e
 ·exact .inr (.inl e)
 ·refine .inr (.inr ⟨i,b,g.imp id ?_⟩);rintro ⟨C,z,n,o⟩;exact ⟨C,z,by rw [←a i b];exact n,o⟩
theorem yv {c f b:Nat} {q g:Nat→Nat} {B:Value} {S:aa} {m:aR} {w j:World} (h:bf c w f b q B S) (A:1≤m.tos.length) (n:aF (fun k=>k=f∨k=b) w j) (y:∀k,fA j f b g (S.plus m) k→fA w f b q S k∨w.heap.size≤k) (z:∀i∈S.live,g i=q i) (u:∃p,dD j (g S.items.length) m.time m.frm p m.body (m.time,0)):
  dT f b q g S (S.plus m) w j∧∀D,iM w q S.live D→iM j g (S.plus m).live (rb S.items.length m.time D):=by
 refine ⟨⟨n.mono (fun _ _ e=>e.imp id .inl),y⟩,fun D t i a=>?_⟩;rw [kJ A,List.mem_append,List.mem_singleton] at a
 rcases a with a | rfl
 ·obtain ⟨C,d,r,s⟩:=t i a;obtain ⟨_,v,x,l,_⟩:=h.mail i a;have o:=bm a;refine ⟨C,?_,by unfold rb;rw [if_pos o];exact r,by unfold rb;rw [if_pos o];exact s⟩
  rw [z i a];refine n.some_ d (fun e=>?_)
  rcases e with e | e
  ·rw [e,h.bag] at d;simp at d
  ·rw [e,show w.heap[b]? =_ from h.map] at d;simp at d
 ·obtain ⟨p,l⟩:=u;exact ⟨_,l,by unfold rb;rw [if_neg (Nat.lt_irrefl _)];rfl,by unfold rb;rw [if_neg (Nat.lt_irrefl _)];rfl⟩
def fG (base pb mb:Nat) (q:Nat→Nat) (vr:Value) (S S':aa) (T:Nat) (w:World) (e:Ending) (w':World):Prop:=
 e= .returned (.bool true)∧∃q',bf base w' pb mb q' vr S'∧dT pb mb q q' S S' w w'∧∀D,iM w q S.live D→iM w' q' S'.live (rb S.items.length T D)
theorem fG.after {a c b T:Nat} {q:Nat→Nat} {d:Value} {S f:aa} {w j i:World} {e:Ending} (h:bf a w c b q d S) (g:Below w.heap.size w j) (t:fG a c b q d S f T j e i):fG a c b q d S f T w e i:=by
 obtain ⟨k,p,l,m,n⟩:=t;exact ⟨k,p,l,dT.after h g m,fun D o=>n D (o.below g)⟩
class Kn where
 D0:Nat→Int×Int
 n0:Nat
 tk:Value
def bQ [Kn] (S:aa) (i:Nat):Int×Int:=if i < Kn.n0 then Kn.D0 i else ((S.mailOf i).time,0)
theorem kR:∀(k n:Nat),aB (k+1) n=UInt8.ofNat (n / 256 ^ k)::aB k n
 | 0,n=>by simp [aB]
 | k+1,n=>by
  rw [aB,kR k (n / 256),Nat.div_div_eq_div_mul,←Nat.pow_succ',aB];rfl
theorem sc:∀(a n k:Nat) (h:k < a),(aB a n)[k]'(by rw [bq];exact h)=UInt8.ofNat (n / 256 ^ (a - 1 - k))
 | 0,n,k,h=>by omega
 | a+1,n,0,h=>by simp [kR]
 | a+1,n,k+1,h=>by
  simp only [kR,List.getElem_cons_succ];rw [sc a n k (by omega)]
  congr 3
  omega
theorem du (v:Value) (l:List UInt8) (n a:Nat) (w:World) (h:dH w v l) (X:l.length≤1073741824) (_:n≤4294967295) (Y:1≤a∧a≤4):
  Calls Tryz.prog 174 #[v,.int .i64 n,.int .i64 a] w fun e q=>∃D,e= .returned D∧dH q D (l++aB a n)∧aF (fun k=>v.ownBlock=some k) w q∧∀k,D.ownBlock=some k→v.ownBlock=some k∨w.heap.size≤k:=by
 have M:=Lib.hid h;clear h;go_enter Tryz.func174,Tryz.ntmps174;go_wp2_with fail
 go_loopw [0,7] (fun b C q=>∃k:Nat,k≤a∧C= .int .i64 (8 * ((a:Int) - k) - 8)∧Hid (dH q b (l++(aB a n).take k))∧Hid (aF (fun j=>v.ownBlock=some j) w q)∧Hid (∀j,b.ownBlock=some j→v.ownBlock=some j∨w.heap.size≤j)) (fun _ C _=>((intOf C)+8).toNat)
 case atStart=>
  refine ⟨0,Nat.zero_le _,congrArg (Value.int .i64) (by omega),Lib.hid ?_,Lib.hid (aF.refl _ _),Lib.hid (fun _ e=> .inl e)⟩;rw [List.take_zero,List.append_nil];exact M.out
 case round=>
  obtain ⟨k,V,rfl,m,r,t⟩:=hrel
  by_cases o:k < a
  ·obtain ⟨f,p⟩:∃f:Nat,8 * (a - k) - 8=f:=⟨_,rfl⟩;have O:(8 * ((a:Int) - k) - 8)=(f:Int):=by omega
   rw [O];have K:f≤24:=by omega
   have B:((UInt8.ofNat (n / 2 ^ f)).toNat:Int)=(n:Int) / 2 ^ f % 256:=by
    rw [UInt8.toNat_ofNat'];rfl
   have d:(aB a n).take (k+1)=(aB a n).take k++[UInt8.ofNat (n / 2 ^ f)]:=by
    rw [List.take_succ_eq_append_getElem (by rw [bq];exact o)]
    congr 2
    rw [sc a n k o,←p]
    congr 2
    rw [show (256:Nat)=2 ^ 8 from rfl,←Nat.pow_mul]
    congr 1
    omega
   obtain ⟨g,c⟩:∃g,l++(aB a n).take k=g:=⟨_,rfl⟩;have Q:g.length≤1073741828:=by rw [←c,List.length_append,List.length_take];omega
   have N:Hid (l++(aB a n).take (k+1)=g++[UInt8.ofNat (n / 2 ^ f)]):=Lib.hid (by rw [d,←List.append_assoc,c]);rw [c] at m;obtain ⟨T,U,P⟩:=m.out.len;subst P;have z:=heap_alloc_new wr (.cells #[.int .u8 ((n:Int) / 2 ^ f % 256)] 5);rw [←B] at z;obtain ⟨H,L,I,S,i,G,E,F⟩:=m.out.one (UInt8.ofNat (n / 2 ^ f)) (W:=wr.alloc (.cells #[.int .u8 ((UInt8.ofNat (n / 2 ^ f)).toNat:Int)] 5)) ((Below.refl _ _).alloc (Nat.le_refl _) _) z (by omega);rw [B] at i;have x:=Lib.hid i;have y:=Lib.hid G;have s:=Lib.hid (r.out.trans E (fun j R e=>(t.out j e).elim id (fun e=>absurd R (by omega))));have u:Hid (∀j,(Value.slice H L I).ownBlock=some j→v.ownBlock=some j∨w.heap.size≤j):=Lib.hid (fun j e=>(F j e).elim (t.out j) (fun e=> .inr (Nat.le_trans r.out.size e)));clear B d c p z i G E F
   go_wp2_with (first
    | (at_builtin;refine bH rfl _ _ 114 rfl _ _ (.slice H L I) S rfl rfl x.out ?_)
    | fail)
   exact ⟨⟨k+1,by omega,congrArg (Value.int .i64) (by omega),by rw [N.out];exact y,s,u⟩,by simp [intOf];omega⟩
  ·have A:k=a:=by omega
   subst A;have J:¬(0:Int)≤8 * ((k:Int) - k) - 8:=by omega
   rw [List.take_of_length_le (by rw [bq];exact Nat.le_refl _)] at m;go_wp2_with fail
   go_ret;exact ⟨_,rfl,m.out,r.out,t.out⟩
theorem km (v:Value) (l t:List UInt8) (a:Nat) (w:World) (h:dH w v l) (M:l.length≤536870912) (N:t.length≤1048576) (H:1≤a∧a≤4):
  Calls Tryz.prog 263 #[v,.string (bs t),.int .i64 a] w fun e C=>∃r,e= .returned r∧dH C r (l++(aB a t.length++t))∧aF (fun k=>v.ownBlock=some k) w C∧∀k,r.ownBlock=some k→v.ownBlock=some k∨w.heap.size≤k:=by
 have I:=aI t;have D:=Lib.hid (du v l t.length a w h (by omega) (by omega) H);obtain ⟨E,F,rfl⟩:=h.len;clear h;go_enter Tryz.func263,Tryz.ntmps263;go_wp2_with fail
 refine D.out.mono ?_;rintro e P ⟨O,rfl,f,o,p⟩;have q:(l++aB a t.length).length≤536870916:=by rw [List.length_append,bq];omega
 have s:Hid (l++(aB a t.length++t)=(l++aB a t.length)++t):=Lib.hid (List.append_assoc ..).symm;obtain ⟨b,c⟩:∃b,l++aB a t.length=b:=⟨_,rfl⟩;rw [c] at f q s;obtain ⟨z,B,A,J,d,y,u,x⟩:=f.text t (by omega);obtain ⟨K,L,rfl⟩:=f.len;have m:=Lib.hid d;have n:=Lib.hid y;have g:=Lib.hid (o.trans u (fun j G e=>(p j e).elim id (fun e=>absurd G (by omega))));have i:Hid (∀j,(Value.slice z B A).ownBlock=some j→(Value.slice E l.length F).ownBlock=some j∨w.heap.size≤j):=Lib.hid (fun j e=>(x j e).elim (p j) (fun e=> .inr (Nat.le_trans o.size e)));clear f o p d y u x
 go_wp2_with (first
  | (at_builtin;refine iz rfl _ _ 114 9 rfl _ (.slice z B A) (bs t) J rfl rfl m.out ?_)
  | fail)
 go_ret;exact ⟨_,rfl,by rw [s.out];exact n.out,g.out,i.out⟩
theorem qF (t:List UInt8) (w:World) (c:t.length≤1073741824):
  Calls Tryz.prog 234 #[.string (bs t)] w fun e b=>e= .returned (.int .i64 ((8+t.length:Nat):Int))∧w=b:=by
 have a:=aI t;go_enter Tryz.func234,Tryz.ntmps234;go_wp2_with fail
 go_ret;exact ⟨by congr 1,rfl⟩
theorem Ik (l:List UInt8):yj l≤4294967295:=by unfold yj;omega
theorem EE (t:List UInt8) (w:World) (Q:t.length≤1048576):
  Calls Tryz.prog 173 #[.string (bs t)] w fun e B=>e= .returned (.string (bs (fi t)))∧Below w.heap.size w B:=by
 have K:=aI t;have F:=Lib.hid (du (.slice none 0 0) [] t.length 4 w (dH.nil w) (by simp) (by omega) (by omega));have v:Hid (∀W:World,Calls Tryz.prog 113 #[.string (bs t)] W fun e B=>e= .returned (.int .u32 (yj t))∧W=B):=Lib.hid (fun W=>tB (bs t) W (by unfold maxLen;omega));have q:=Ik t;obtain ⟨j,g⟩:∃j,yj t=j:=⟨_,rfl⟩;rw [g] at v q;have x:Hid (fi t=(aB 4 t.length++aB 4 j)++t):=Lib.hid (by unfold fi;rw [g,List.append_assoc]);clear g;go_enter Tryz.func173,Tryz.ntmps173;go_wp2_with fail
 refine F.out.mono ?_;rintro e C ⟨R,rfl,n,h,G⟩;have o:([]++aB 4 t.length).length≤4:=by rw [List.nil_append,bq];exact Nat.le_refl _
 rw [List.nil_append] at n o;obtain ⟨b,d⟩:∃b,aB 4 t.length=b:=⟨_,rfl⟩;rw [d] at n o x;obtain ⟨M,O,rfl⟩:=n.len;have z:=Lib.hid n;have D:Below w.heap.size w C:=⟨h.still.1,h.still.2.1,h.still.2.2,h.size,fun k A=>h.block k A (fun e=>by cases e)⟩;have m:=Lib.hid D;have y:=Lib.hid G;clear n h G D;go_wp2_with fail
 refine (v.out C).mono ?_;rintro e T ⟨rfl,rfl⟩;have l:=Lib.hid (du _ b j 4 C z.out (by omega) q (by omega));clear d F v;go_wp2_with fail
 refine l.out.mono ?_;rintro e L ⟨S,rfl,r,i,I⟩;have p:(b++aB 4 j).length≤8:=by rw [List.length_append,bq];omega
 obtain ⟨a,c⟩:∃a,b++aB 4 j=a:=⟨_,rfl⟩;rw [c] at r p x;have H:=aI a;have J:=r.string;obtain ⟨N,P,rfl⟩:=r.len;have f:bs a++bs t=bs (a++t):=(ca a t).symm;have s:=Lib.hid f
 have E:Below w.heap.size w L:=by
  refine m.out.trans ⟨i.still.1,i.still.2.1,i.still.2.2,i.size,fun k A=>i.block k (Nat.lt_of_lt_of_le A m.out.size) (fun e=>?_)⟩
  rcases y.out k e with e | e
  ·cases e
  ·omega
 have u:=Lib.hid E;clear r i I c E f l;go_wp2_with fail
 go_ret;exact ⟨by rw [x.out,←s.out];rfl,u.out⟩
theorem bf.mono {base e g f:Nat} {q:Nat→Nat} {j:Value} {S:aa} {w:World} (h:bf base w g f q j S) (d:e≤base):bf e w g f q j S:=
 ⟨h.bag,h.map,Nat.le_trans d h.pbb,Nat.le_trans d h.mbb,h.one,fun i k=>by
  obtain ⟨a,v,x,b,c⟩:=h.mail i k
  exact ⟨Nat.le_trans d a,v,x,b,c.mono d⟩⟩
theorem aF.but {p:Nat} {w a:World} (h:qN p w a):aF (fun k=>k=p) w a:=⟨h.size,fun k b c=>h.block k b c,h.still⟩
theorem lV (l L f:Nat) (q:Nat→Nat) (vr Q:Value) (S:aa) (K:Nat) (n:List Nat) (w:World) (h:bf l w L f q vr S) (a6:S.Ok) (hp:aZ w Q n.length 1 (aX n)) (N:K∈S.live) (a7:n.length≤255) (hn:S.items.length≤4294967295):
  Calls Tryz.prog 169 #[.pointer (some ⟨L,0,none⟩),.agg #[.int .i64 ((K:Int)+1),Q]] w fun e w'=>∃vn,e= .returned vn∧w'.ownsRow w.heap.size 9 1 vn (di (S.stayOf K) n).length (az (di (S.stayOf K) n))∧bf l w' L f q vr (S.outs K n)∧aF (fun k=>k=f∨k=q K) w w'∧(∀C,w.heap[q K]? =some (.cells C 158 (0,0))→∃m,w'.heap[q K]? =some (.cells m 158 (0,0))∧m[4]? =C[4]? ∧m[5]? =C[5]? ∧∀k,(m.getD 2 undef).ownBlock=some k→w.heap.size≤k):=by
 have b3:=h.le;obtain ⟨j,D⟩:∃j:World,w.alloc (.cells #[.int .i64 ((K:Int)+1),Q] 193)=j:=⟨_,rfl⟩;have B0:Below w.heap.size w j:=by rw [←D];exact (Below.refl _ _).alloc (Nat.le_refl _) _
 have R:bf l j L f q vr S:=h.keep B0;have W:j.heap[w.heap.size]? =some (.cells #[.int .i64 ((K:Int)+1),Q] 193 (0,0)):=by rw [←D];exact heap_alloc_new w _
 have c3:j.drew.cell? ⟨L,3,none⟩=some (.map (some f)):=by show j.cell? _=_;rw [Lib.cell_of_heap R.bag];rfl
 have e0:j.drew.cell? ⟨w.heap.size,0,none⟩=some (.int .i64 ((K:Int)+1)):=by show j.cell? _=_;rw [Lib.cell_of_heap W];rfl
 have e1:j.drew.cell? ⟨w.heap.size,1,none⟩=some Q:=by show j.cell? _=_;rw [Lib.cell_of_heap W];rfl
 have u:∀i∈S.live,i < 4294967296:=fun i hi=>by have:=bm hi;omega
 have hM:fP j.drew f q S.live S.items.length:=R.map;have b2:=bm N
 have b4:(Instr.lookup 115 (.map (some f)) (.int .i64 ((K:Int)+1)) false).run Tryz.prog j.drew= .ok (.pointer (some ⟨q K,0,none⟩)) j.drew:=
  gQ (t:=115) (e:=122) fJ Tryz.underlying115 hM u K (by omega) N false
 obtain ⟨a8,v,x,O,hr⟩:=R.mail K N;have a0:=Lib.hid (nC l (q K) _ _ _ v Q (S.stayOf K) n x j.drew O a8 hr (hp.below B0.drew) (by have:=dp a6 K;omega) a7);have B:=Lib.hid R;have o:=Lib.hid B0;have a2:=Lib.hid D;have a3:=Lib.hid W;have U:=Lib.hid O;have HL:=Lib.hid u;have a5:q K≠w.heap.size:=fun e=>by unfold dD at O;rw [e,W] at O;simp at O
 clear O hr R W B0 hM u hp h D;go_enter Tryz.func169,Tryz.ntmps169;go_wp2_with fail
 rw [a2.out];go_region
 all_goals
  go_wp2_with fail
  refine a0.out.mono ?_;rintro e d ⟨vn,vs,rfl,E,p,z,r⟩
  obtain ⟨gs,cs,es⟩:∃a c,vs= .slice a (bG (S.stayOf K) n).length c:=by
   rcases z.2 with ⟨e,h0⟩ | ⟨g,a4,X,e,_⟩
   ·exact ⟨_,_,by rw [h0];exact e⟩
   ·exact ⟨_,_,e⟩
  subst es;have b:qN (q K) j d:=yL r;have f2:d.cell? ⟨q K,2,none⟩=some (.slice gs (bG (S.stayOf K) n).length cs):=by rw [Lib.cell_of_heap p];rfl
  have G:Hid (aF (fun k=>k=f∨k=q K) w d):=Lib.hid ((aF.below o.out).trans (aF.but b) (fun _ _ e=> .inr e))
  have H:Hid (∀C,w.heap[q K]? =some (.cells C 158 (0,0))→∃m,d.heap[q K]? =some (.cells m 158 (0,0))∧m[4]? =C[4]? ∧m[5]? =C[5]? ∧∀k,(m.getD 2 undef).ownBlock=some k→w.heap.size≤k):=Lib.hid (by
   intro C hC;have M:j.heap[q K]? =_:=U.out;rw [ae o.out hC] at M;injection M with M;injection M with M;subst M;refine ⟨_,p,rfl,rfl,fun k e=>?_⟩;have Y:=o.out.size
   rcases z.2 with ⟨e1,_⟩ | ⟨g,a4,X,e1,hg,_⟩
   ·have e:(Value.slice gs (bG (S.stayOf K) n).length cs).ownBlock=some k:=e;rw [e1] at e;simp [Value.ownBlock] at e
   ·have e:(Value.slice gs (bG (S.stayOf K) n).length cs).ownBlock=some k:=e;rw [e1] at e;have e:g=k:=by simpa [Value.ownBlock] using e
    have hg:j.heap.size≤g:=hg
    omega)
  by_cases Y:bG (S.stayOf K) n=[]
  ·obtain ⟨Z,A⟩:=B.out.emptied N b Y;have y:(bG (S.stayOf K) n).length=0:=by rw [Y];rfl
   have s:∀P:TypeId,(Builtin.delete_ #[115,3] P #[.map (some f),.int .i64 ((K:Int)+1)]).run Tryz.prog d.drew= .ok (.tuple #[]) (ChangeMaps.setBlock d.drew f (.map (cF q (S.live.filter fun i=>decide (i≠K))) S.items.length)):=fun P=>
    zE (t:=115) (e:=122) fJ Tryz.underlying115 (w:=d.drew) (c:=S.items.length) Z HL.out (iy S) K (by omega) N
   have A3:Hid (bf l (ChangeMaps.setBlock d.drew f (.map (cF q (S.live.filter fun i=>decide (i≠K))) S.items.length)) L f q vr (S.outs K n)):=Lib.hid ⟨A.bag,A.map,A.pbb,A.mbb,A.one,A.mail⟩;have S3:=fN (w:=d.drew) Z (.map (cF q (S.live.filter fun i=>decide (i≠K))) S.items.length);have F:=Lib.hid (ax (w:=d.drew) E.drew fun g X e _=>aJ S3 e fun e'=>by rw [e'] at e;rw [show d.drew.heap[f]? =_ from Z] at e;simp at e);have T:Hid (aF (fun k=>k=f∨k=q K) w (ChangeMaps.setBlock d.drew f (.map (cF q (S.live.filter fun i=>decide (i≠K))) S.items.length))):=Lib.hid (G.out.trans ((aF.below ((Below.refl d.heap.size d).drew):aF (fun k=>k=f) d d.drew).trans (aF.same S3) (fun _ _ e=>e)) (fun _ _ e=> .inl e))
   have V:Hid (∀C,w.heap[q K]? =some (.cells C 158 (0,0))→∃m,(ChangeMaps.setBlock d.drew f (.map (cF q (S.live.filter fun i=>decide (i≠K))) S.items.length)).heap[q K]? =some (.cells m 158 (0,0))∧m[4]? =C[4]? ∧m[5]? =C[5]? ∧∀k,(m.getD 2 undef).ownBlock=some k→w.heap.size≤k):=Lib.hid (by
    intro C hC;obtain ⟨m,I,h4,h5,h6⟩:=H.out C hC
    exact ⟨m,aJ S3 I (fun e=>by rw [e,show d.heap[f]? =_ from Z] at I;simp at I),h4,h5,h6⟩)
   obtain ⟨w3,J⟩:∃w3,ChangeMaps.setBlock d.drew f (.map (cF q (S.live.filter fun i=>decide (i≠K))) S.items.length)=w3:=⟨_,rfl⟩;rw [J] at A3 F T V;have a9:∀P:TypeId,(Builtin.delete_ #[115,3] P #[.map (some f),.int .i64 ((K:Int)+1)]).run Tryz.prog d.drew= .ok (.tuple #[]) w3:=fun P=>by rw [s P,J]
   have b0:d.drew.cell? ⟨L,3,none⟩=some (.map (some f)):=by
    show d.cell? _=_;rw [Lib.cell_of_heap (gB b B.out.bag (fun e=>by have:=U.out;unfold dD at this;rw [←e,B.out.bag] at this;simp at this))];rfl
   have b1:d.drew.cell? ⟨w.heap.size,0,none⟩=some (.int .i64 ((K:Int)+1)):=by
    show d.cell? _=_;rw [Lib.cell_of_heap (gB b a3.out (fun e=>a5 e.symm))];rfl
   rw [y] at f2;clear r b p z E A Z S3 G y J s H;go_wp2_with fail
   go_region
   all_goals
    go_wp2_with fail
    go_ret;exact ⟨vn,rfl,F.out.mono (by have:=o.out.size;exact this),A3.out,T.out,V.out⟩
  ·have A:=Lib.hid (B.out.left N b p z Y)
   have y:(((bG (S.stayOf K) n).length:Int) == 0)=false:=by
    rw [beq_eq_false_iff_ne];intro e;exact Y (List.eq_nil_of_length_eq_zero (by omega))
   have a1:=Lib.hid E;clear r b p z E;go_wp2_with fail
   go_ret;exact ⟨vn,rfl,a1.out.mono (by have:=o.out.size;exact this),A.out,G.out,H.out⟩
theorem gE {S:aa} {K:Nat} {c:List Nat} {i:Nat} (a:K∈S.live) (h:i∈(S.outs K c).live):i∈S.live:=by
 by_cases b:bG (S.stayOf K) c=[]
 ·rw [iY a b] at h;exact (List.mem_filter.1 h).1
 ·rw [iZ a b] at h;exact h
theorem sX {l A o K:Nat} {q:Nat→Nat} {F:Value} {S:aa} {ps:List Nat} {w m:World} (h:bf l w A o q F S) (n:K∈S.live) (u:aF (fun k=>k=o∨k=q K) w m) (y:∀C,w.heap[q K]? =some (.cells C 158 (0,0))→∃f,m.heap[q K]? =some (.cells f 158 (0,0))∧f[4]? =C[4]? ∧f[5]? =C[5]? ∧∀k,(f.getD 2 undef).ownBlock=some k→w.heap.size≤k):dT A o q q S (S.outs K ps) w m∧kD w m q (S.outs K ps).live:=by
 have d:∀i∈S.live,i≠K→m.heap[q i]? =w.heap[q i]? :=fun i j r=>by
  obtain ⟨_,v,x,g,_⟩:=h.mail i j;refine u.block (q i) (ah g) (fun e=>?_)
  rcases e with e | e
  ·unfold dD at g;rw [e,show w.heap[o]? =_ from h.map] at g;simp at g
  ·exact r (h.one i j K n e)
 refine ⟨⟨u.mono (fun k _ e=> .inr (e.imp id (fun e=>⟨K,n,.inl e⟩))),fun k b=>?_⟩,fun i j C t=>?_⟩
 ·rcases b with b | b | ⟨i,j,b⟩
  ·exact .inl (.inl b)
  ·exact .inl (.inr (.inl b))
  ·have a:=gE n j
   rcases b with b | ⟨C,z,c,s⟩
   ·exact .inl (.inr (.inr ⟨i,a,.inl b⟩))
   ·by_cases e:i=K
    ·subst e;obtain ⟨_,v,x,g,_⟩:=h.mail i a;obtain ⟨f,p,_,_,E⟩:=y _ g;rw [p] at c;injection c with c;injection c with c;subst c;exact .inr (E k s)
    ·rw [d i a e] at c;exact .inl (.inr (.inr ⟨i,a,.inr ⟨C,z,c,s⟩⟩))
 ·have a:=gE n j
  by_cases e:i=K
  ·subst e;obtain ⟨f,p,B,D,_⟩:=y C t;exact ⟨f,p,B,D⟩
  ·exact ⟨C,(d i a e).trans t,rfl,rfl⟩
def cx (c n:Int):Int:=(if c < 0 then -(c+1) else c) % n
theorem cO (c:Int) {n:Int} (a:0 < n):0≤cx c n∧cx c n < n:=⟨Int.emod_nonneg _ (by omega),Int.emod_lt_of_pos _ a⟩
theorem bZ (c n:Int) (w:World) (p: -9223372036854775808≤c) (q:c≤9223372036854775807) (g:0 < n) (i:n≤9223372036854775807):
  Calls Tryz.prog 20 #[.int .i64 c,.int .i64 n] w fun e l=>e= .returned (.int .i64 (cx c n))∧w=l:=by
 have j:¬n=0:=by omega
 have d:∀x:Int,0≤x→x.tmod n=x % n:=fun x k=>Int.tmod_eq_emod_of_nonneg k
 by_cases f:c < 0
 ·have m:IntKind.i64.wrap (c+1)=c+1:=by rw [IntKind.wrap_i64];omega
  have o:IntKind.i64.wrap (-(c+1))= -(c+1):=by rw [IntKind.wrap_i64];omega
  have a:cx c n= -(c+1).tmod n:=by rw [←Int.neg_tmod];unfold cx;rw [if_pos f,d _ (by omega)]
  have b:=cO c g;rw [a] at b ⊢;have h:IntKind.i64.wrap (-(c+1).tmod n)= -(c+1).tmod n:=by rw [IntKind.wrap_i64];omega
  go_enter Tryz.func20,Tryz.ntmps20;go_wp2_with fail
  go_ret;exact ⟨rfl,rfl⟩
 ·have a:cx c n=c.tmod n:=by unfold cx;rw [if_neg f,d _ (by omega)]
  have b:=cO c g;rw [a] at b ⊢;have h:IntKind.i64.wrap (c.tmod n)=c.tmod n:=by rw [IntKind.wrap_i64];omega
  go_enter Tryz.func20,Tryz.ntmps20;go_wp2_with fail
  go_ret;exact ⟨rfl,rfl⟩
end Go.Proofs.YtofpegbpgkkgkaaGreatDoor
