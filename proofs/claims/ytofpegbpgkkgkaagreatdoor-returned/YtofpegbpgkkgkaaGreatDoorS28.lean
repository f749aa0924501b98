import Derived.Test.YtofpegbpgkkgkaaGreatDoorS27
import Derived.Test.YtofpegbpgkkgkaaGreatDoorS24
namespace Go.Proofs.YtofpegbpgkkgkaaGreatDoor
set_option maxHeartbeats 8000000
set_option maxRecDepth 1000000
open Go.RowKit
theorem gn.trans [Kn] {b a:Nat} {q l:Nat→Nat} {d c:Value} {S:bp} {x y:bp×List UInt8} {w g m:World} (i:aH (an w b a q d S) w g) (j:∀k,an g b a l c x.1 k→an w b a q d S k∨w.heap.size≤k) (h:gn b a l c x.1 y g m):gn b a q d S y w m:=by
 obtain ⟨r,f,n,o,p⟩:=h;exact ⟨r,f,n,i.trans o (fun k s e=>(j k e).elim id (fun e=>by omega)),fun k e=>(p k e).elim (j k) (fun e=> .inr (Nat.le_trans i.size e))⟩
theorem gn.below [Kn] {pb b:Nat} {q:Nat→Nat} {c:Value} {S:bp} {a:List UInt8} {y:bp×List UInt8} {w f g:World} (i:fv w pb b q c S a) (d:Below w.heap.size w f) (h:gn pb b q c S y f g):gn pb b q c S y w g:=
 gn.trans (x:=(S,a)) (aH.below d) (fun _ e=> .inl (e.imp (cR i.inn d) id)) h
theorem fv.timed [Kn] {a c:Nat} {q:Nat→Nat} {d:Value} {S:bp} {b:List UInt8} {w:World} (h:fv w a c q d S b) (T:Nat):fv (w.setCell ⟨a,1,none⟩ (.int .i64 T)) a c q d ⟨S.items,T⟩ b∧aH (an w a c q d S) w (w.setCell ⟨a,1,none⟩ (.int .i64 T))∧∀k,an (w.setCell ⟨a,1,none⟩ (.int .i64 T)) a c q d ⟨S.items,T⟩ k→an w a c q d S k∨w.heap.size≤k:=by
 have f:aL a w (w.setCell ⟨a,1,none⟩ (.int .i64 T)):=(aL.refl _ _).setCell _;obtain ⟨l,m⟩:=ym (T:=T) h.inn f;refine ⟨⟨h.inn.timed f (heap_setCell_same w a 1 _ _ (.int .i64 T) h.inn.bag),h.row.chg (aH.same f) (fun g i e=>Dq h.inn h.row (by rw [←e];exact i)),m.due (fun _ j=>j) h.due,h.kn⟩,(aH.same f).mono (fun k _ e=> .inl (.inl e)),fun k e=>?_⟩
 rcases e with e | e
 ·exact (l.own k e).imp .inl id
 ·exact .inl (.inr e)
theorem II [Kn] (m o:Nat) (q:Nat→Nat) (s:Value) (S:bp) (f:List UInt8) (T:Nat) (d n:Int) (w:World) (h:fv w m o q s S f) (hx:oK (S,f)) (hT:T≤1000000000) (hm:w.cell? ⟨0,0,none⟩=some (.int .i64 n)) (R:¬an w m o q s S 0):
  Calls Tryz.prog 50 #[.pointer (some ⟨m,0,none⟩),.int .i64 T,.int .i64 d] w fun e w'=>e= .returned (.tuple #[])∧gn m o q s S (dw d (⟨S.items,T⟩,f) S.live) w w':=by
 obtain ⟨R0,K0,O0⟩:=h.timed T;have b1:oK ((⟨S.items,T⟩:bp),f):=⟨hx.ok.time T,hx.led,hT⟩;have c1:w.cell? ⟨m,1,none⟩=some (.int .i64 S.time):=by rw [Lib.cell_of_heap h.inn.bag];rfl
 have f1:w.frozen? ⟨m,1,none⟩=false:=Lib.frozen_of_heap h.inn.bag 1;have F:0 < w.heap.size:=eI hm;have M0:(w.setCell ⟨m,1,none⟩ (.int .i64 T)).cell? ⟨0,0,none⟩=some (.int .i64 n):=(World.cell?_of_block (K0.block _ F R)).trans hm;obtain ⟨z,O⟩:∃z:World,w.setCell ⟨m,1,none⟩ (.int .i64 T)=z:=⟨_,rfl⟩;rw [O] at R0 K0 O0 M0;have J:¬an z m o q s ⟨S.items,T⟩ 0:=fun e=>(O0 _ e).elim R (fun e=>by omega);have c3:w.cell? ⟨m,3,none⟩=some (.map (some o)):=by rw [Lib.cell_of_heap h.inn.bag];rfl
 have a0:=Lib.hid (lB b1 d (l:=S.live) (fun i hi=>hi) (gJ S));have a8:=uG S;have d9:S.items.length≤1000000:=hx.led.items;have c9:=Lib.hid O;have u:=Lib.hid R0;have b7:=Lib.hid K0;have c2:=Lib.hid O0;have a1:=Lib.hid M0;have c0:=Lib.hid J;clear h hx b1 R0 K0 O0 hm R J M0 O F;go_enter Tryz.func50,Tryz.ntmps50;go_wp2_with fail
 rw [c9.out];refine (AU (some o) z).mono ?_;rintro e w2 ⟨rfl,b0⟩;have a4:=Lib.hid b0;clear b0 c3;go_wp2_with fail
 rw [a4.out];refine (nF z o S.items.length q S.live u.out.inn.map (fun i hi=>bq hi) (oz S) (by omega) a8).mono ?_;rintro e A ⟨vk,rfl,D,a5⟩;have Y:Below z.heap.size z A:=((Below.refl _ z).alloc (Nat.le_refl _) _).trans (a5.mono (by omega))
 obtain ⟨ak,ck,rfl⟩:∃a c,vk= .slice a S.live.length c:=by
  rcases D.2 with ⟨e,h0⟩ | ⟨g,d5,d6,e,_⟩
  ·exact ⟨_,_,by rw [h0];exact e⟩
  ·exact ⟨_,_,e⟩
 have R3:=u.out.below Y;have r:∀k,an A m o q s ⟨S.items,T⟩ k→an z m o q s ⟨S.items,T⟩ k:=fun k e=>e.imp (cR u.out.inn Y) id;have c8:=Lib.hid (aF D)
 have c5:Hid (∀g,(Value.slice ak S.live.length ck).ownBlock=some g→¬an A m o q s ⟨S.items,T⟩ g):=Lib.hid (fun g hg e=>by
  have h1:=(D.lt g hg).1;have h2:=an.lt u.out (r g e)
  omega)
 have F:0 < z.heap.size:=eI a1.out;have a2:Hid (A.cell? ⟨0,0,none⟩=some (.int .i64 n)):=Lib.hid ((Y.cell F).trans a1.out);have a3:Hid (¬an A m o q s ⟨S.items,T⟩ 0):=Lib.hid (fun e=>c0.out (r _ e));have Z:Hid (gn m o q s ⟨S.items,T⟩ (⟨S.items,T⟩,f) A A):=Lib.hid ⟨q,s,R3,aH.refl _ _,fun k e=> .inl e⟩;have b3:=Lib.hid Y;clear D a5 R3 Y r a4;go_wp2_with fail
 go_loopw [7,8,20] (fun _ _ i w'=>∃k:Nat,k≤S.live.length∧i= .int .i64 k∧Hid (gn m o q s ⟨S.items,T⟩ (dw d (⟨S.items,T⟩,f) (S.live.take k)) A w')) (fun _ _ i _=>S.live.length - (intOf i).toNat)
 case atStart=>exact ⟨0,Nat.zero_le _,rfl,Z⟩
 case round=>
  clear Z;obtain ⟨k,hk,rfl,V⟩:=hrel;obtain ⟨q1,b2,B,N,O1⟩:=V.out
  by_cases E:k < S.live.length
  ·have d3:(k:Int) < (S.live.length:Int):=by omega
   obtain ⟨G,i2,i3,_⟩:=a0.out k hk;obtain ⟨y,ey⟩:∃y,dw d (⟨S.items,T⟩,f) (S.live.take k)=y:=⟨_,rfl⟩;have K:Hid (dw d (⟨S.items,T⟩,f) (S.live.take (k+1))=kW d y S.live[k]):=Lib.hid (by rw [List.take_succ_eq_append_getElem E,pg,ey]);rw [ey] at B O1 G i2 i3;have p:S.live[k]∈y.1.live:=i2 _ (by rw [List.drop_eq_getElem_cons E];exact List.mem_cons_self ..);obtain ⟨a',d2,ea,hc⟩:=(c8.out.chg N c5.out).one;injection ea with ea1 _ ea3;subst ea1 ea3;obtain ⟨b,e3,rfl,d7,v⟩:=hc k E;have Q:((iK S.live).map fun (i:Int)=>Value.int .i64 i)[k]? =some (.int .i64 ((S.live[k]:Int)+1)):=by simp [iK,E]
   rw [Q] at v
   generalize S.live[k]=i at v p K
   have a7:=bq p;have e1:y.1.items.length≤1000000:=G.led.items;have d4:wr.cell? ⟨m,3,none⟩=some (.map (some o)):=by rw [Lib.cell_of_heap B.inn.bag];rfl
   have d8:(Instr.lookup 115 (.map (some o)) (.int .i64 ((i:Int)+1)) false).run Tryz.prog wr= .ok (.pointer (some ⟨q1 i,0,none⟩)) wr:=
    ig (t:=115) (e:=122) fU Tryz.underlying115 B.inn.map (fun j hj=>by have:=bq hj;omega) i (by omega) p false
   obtain ⟨_,v0,x0,C,U⟩:=B.inn.mail i p;have m0:wr.cell? ⟨q1 i,0,none⟩=some (.int .i64 ((y.1.mailOf i).time:Int)):=by rw [Lib.cell_of_heap C];rfl
   have hz:dQ (y.1.mailOf i):=by rw [kd a7];exact (G.ok.sz _ (List.getElem_mem a7)).1
   have e2:=hz.2.1;obtain ⟨M,X⟩:∃M,(y.1.mailOf i).time=M:=⟨_,rfl⟩;have e0:IntKind.i64.wrap ((T:Int) - (M:Int))=(T:Int) - (M:Int):=by rw [IntKind.wrap_i64];omega
   have i3:y.1.time=T:=i3
   by_cases H:d≤(T:Int) - (M:Int)
   ·have c6:=Lib.hid (Dr 0 (q1 i) _ _ _ v0 (y.1.stayOf i) x0 wr C U (by have:=dk G.ok i;omega));obtain ⟨fa,fb,fc⟩:=ud G p;have I:0 < A.heap.size:=eI a2.out
    have d0:Hid (∀vp (W:World),Below wr.heap.size wr W→W.ownsRow wr.heap.size 3 1 vp (y.1.stayOf i).length (aZ ((y.1.stayOf i).map (·.1)))→Calls Tryz.prog 83 #[.pointer (some ⟨m,0,none⟩),.int .i64 ((i:Int)+1),vp] W fun e w'=>e= .returned (.tuple #[])∧gn m o q1 b2 y.1 (jr y i ((y.1.stayOf i).map (·.1))) W w'):=Lib.hid (fun vp W hb hr=>by
     refine nI m o q1 b2 vp y.1 y.2 i _ n W (B.below hb) G (by rw [List.length_map];exact aF hr) ?_ (by omega) fa (kE G.ok i) fb fc
     exact (hb.cell (Nat.lt_of_lt_of_le I N.size)).trans ((World.cell?_of_block (N.block _ I a3.out)).trans a2.out))
    have L:Hid (kW d y i=jr y i ((y.1.stayOf i).map (·.1))):=Lib.hid (by unfold kW;rw [if_pos (by rw [i3,X];exact H)]);rw [X] at m0;have b8:=Lib.hid N;have c4:=Lib.hid O1;have c7:=Lib.hid B;clear B N O1 C U hc Q V G i2 ey fa fb fc hz X;go_wp2_with fail
    refine c6.out.mono ?_;rintro e w4 ⟨g,rfl,a9,P⟩;have b5:=Lib.hid (d0.out _ w4 P a9);have b4:=Lib.hid P;clear a9 P;go_wp2_with fail
    refine b5.out.mono ?_;rintro e w5 ⟨rfl,a6⟩;have b6:Hid (gn m o q s ⟨S.items,T⟩ (jr y i ((y.1.stayOf i).map (·.1))) A w5):=Lib.hid (gn.trans (x:=y) b8.out c4.out (gn.below c7.out b4.out a6));clear a6;go_wp2_with fail
    exact ⟨⟨k+1,by omega,by go_num,Lib.hid (by rw [K.out,L.out];exact b6.out)⟩,by simp [intOf];omega⟩
   ·have L:Hid (kW d y i=y):=Lib.hid (by unfold kW;rw [if_neg (by rw [i3,X];exact H)]);rw [X] at m0;rw [ey] at V;clear B N O1 C U hc Q G i2 ey hz X;go_wp2_with fail
    exact ⟨⟨k+1,by omega,by go_num,Lib.hid (by rw [K.out,L.out];exact V.out)⟩,by simp [intOf];omega⟩
  ·have d1:k=S.live.length:=by omega
   subst d1;rw [List.take_length] at V;clear B N O1;go_wp2_with fail
   refine bodyPost_end (results_none rfl _ _ _) rfl ?_;exact ⟨rfl,gn.trans (x:=((⟨S.items,T⟩:bp),f)) b7.out c2.out (gn.below u.out b3.out V.out)⟩
end Go.Proofs.YtofpegbpgkkgkaaGreatDoor
