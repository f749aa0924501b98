import Derived.Test.YtofpegbpgkkgkaaGreatDoorS42
namespace Go.Proofs.YtofpegbpgkkgkaaGreatDoor
set_option maxHeartbeats 8000000
set_option maxRecDepth 1000000
open Go.RowKit
def Hf:List UInt8:=[78,111,116,32,100,101,108,105,118,101,114,101,100,58]
def CD (m:aR):Prop:=m.frm=[]∧m.tos.length=1∧14 < m.body.length∧m.body.take 14=Hf
section
variable {E own:Nat→Prop} {pp gb:Nat} {c:bT} {w:World} {vS vM:Value} {sl:List (bV×Value)} {ml:List (aR×Value)} {g:GS}
theorem gL.mail (h:gL E own pp gb c w vS vM sl ml g) {n:Nat} (o:n < ml.length):∃d a,vM= .slice (some ⟨d,0,none⟩) ml.length a∧d < w.heap.size∧∀i,i < 5→w.cell? ⟨d,n * 5+i,none⟩=(aV ml[n].1 ml[n].2)[i]? :=by
 rcases h.mrow.2 with ⟨_,p⟩ | ⟨l,j,k,e,_,f,_,_,_,b⟩
 ·omega
 ·refine ⟨l,j,e,ah f,fun i m=>?_⟩;rw [Lib.cell_of_heap f,←Array.getElem?_toList,←List.getElem?_take_of_lt (show n * 5+i < ml.length * 5 by omega),b,la _ _ _ o m]
theorem xF (h:gL E own pp gb c w vS vM sl ml g) (c5:ml.length≤1048576) (a5:∀x∈g.mails,x.tos.length≤10) (m:aR) (v:Value) (hr:aZ w v m.tos.length 1 (az m.tos)) (hz:dq m) (a0:∀x∈g.mails,x.id=m.id→∀t∈m.tos,t∈x.tos) (K:(∀x∈g.mails,x.id≠m.id)→CD m):
  Calls Tryz.prog 11 #[.pointer (some ⟨gb,0,none⟩),.agg #[.int .i64 m.id,.int .i64 m.time,.string (bs m.frm),v,.string (bs m.body)]] w fun e r=>e= .returned (.bool true)∧Below w.heap.size w r:=by
 obtain ⟨P,Q,ev⟩:=aE hr;subst ev;obtain ⟨n,F⟩:∃W:World,w.alloc (.cells #[.int .i64 m.id,.int .i64 m.time,.string (bs m.frm),.slice P m.tos.length Q,.string (bs m.body)] 45)=W:=⟨_,rfl⟩;have O:n.heap[w.heap.size]? =some (.cells #[.int .i64 m.id,.int .i64 m.time,.string (bs m.frm),.slice P m.tos.length Q,.string (bs m.body)] 45 (0,0)):=by rw [←F];exact heap_alloc_new w _
 have B0:Below w.heap.size w n:=by rw [←F];exact (Below.refl _ _).alloc (Nat.le_refl _) _
 have z0:w.heap.size < n.heap.size:=ah O;have o0:n.cell? ⟨w.heap.size,0,none⟩=some (.int .i64 m.id):=by rw [Lib.cell_of_heap O];rfl
 have o2:n.cell? ⟨w.heap.size,2,none⟩=some (.string (bs m.frm)):=by rw [Lib.cell_of_heap O];rfl
 have o3:n.cell? ⟨w.heap.size,3,none⟩=some (.slice P m.tos.length Q):=by rw [Lib.cell_of_heap O];rfl
 have o4:n.cell? ⟨w.heap.size,4,none⟩=some (.string (bs m.body)):=by rw [Lib.cell_of_heap O];rfl
 have S:=h.below B0
 have J:∀j (B:j < m.tos.length),∃b o,P=some ⟨b,o,none⟩∧b < n.heap.size∧n.cell? ⟨b,o+j,none⟩=some (.string (bs m.tos[j])):=fun j B=>by
  obtain ⟨a',c',e',h1⟩:=(hr.below B0).one;injection e' with e1 _ _;subst e1;obtain ⟨b,o,e2,X,l⟩:=h1 j B;exact ⟨b,o,e2,X,by rw [l,dh _ _ B]⟩
 have p:=S.cells.2.2.1;obtain ⟨am,V,eM⟩:=aE (aC S.mrow);subst eM;have Y:gb < n.heap.size:=aA p
 have u:∀k (C:k < ml.length),∃q,am=some ⟨q,0,none⟩∧q < n.heap.size∧∃a A,n.cell? ⟨q,k * 5,none⟩=some (.int .i64 ml[k].1.id)∧n.cell? ⟨q,k * 5+3,none⟩=some (.slice a ml[k].1.tos.length A)∧aZ n (.slice a ml[k].1.tos.length A) ml[k].1.tos.length 1 (az ml[k].1.tos):=fun k C=>by
  obtain ⟨q,b6,e,X,l⟩:=S.mail C;injection e with e1 _ _;have f:=(S.mtos ml[k] (List.getElem_mem C)).row;obtain ⟨a,A,et⟩:=aE f;rw [et] at f;exact ⟨q,e1,X,a,A,l 0 (by decide),by rw [l 3 (by decide),←et];rfl,f⟩
 have d:∀k (C:k < ml.length),ml[k].1∈g.mails:=fun k C=>by rw [←h.meq];exact List.mem_map_of_mem (List.getElem_mem C)
 have I:(∀k (C:k < ml.length),ml[k].1.id≠m.id)→CD m:=fun hh=>K fun x hx=>by
  rw [←h.meq] at hx;obtain ⟨y,hy,rfl⟩:=List.mem_map.1 hx;obtain ⟨k,C,rfl⟩:=List.getElem_of_mem hy;exact hh k C
 have HM:=Lib.hid u;have b0:=Lib.hid d;have a7:=Lib.hid I;have a9:=Lib.hid a0;have b1:=Lib.hid a5;have U:=Lib.hid J;have D:=Lib.hid B0;have b2:=Lib.hid F;have b5:m.tos.length≤255:=hz.2.2.2.1;have b8:m.body.length≤1048576:=hz.2.2.2.2.2;have c0:=aI m.body;have R:=Lib.hid p;have O0:=Lib.hid o0;have O2:=Lib.hid o2;have O3:=Lib.hid o3;have O4:=Lib.hid o4;clear h hr a0 K a5 O B0 F S J u d I hz p o0 o2 o3 o4;go_enter Tryz.func11,Tryz.ntmps11;go_wp2_with fail
 rw [b2.out];go_loopw [5] (fun i wr=>∃k:Nat,k≤ml.length∧i= .int .i64 k∧Hid (∀j (B:j < ml.length),j < k→ml[j].1.id≠m.id)∧Hid (Below n.heap.size n wr)) (fun i _=>ml.length - (intOf i).toNat)
 case atStart=>exact ⟨0,Nat.zero_le _,rfl,Lib.hid (fun j _ B=>by omega),Lib.hid (Below.refl _ _)⟩
 case round=>
  obtain ⟨k,C,rfl,HN,z⟩:=hrel;have p:wr.cell? ⟨gb,11,none⟩=some (.slice am ml.length V):=(z.out.cell Y).trans R.out
  by_cases a3:k < ml.length
  ·have a4:(k:Int) < (ml.length:Int):=by omega
   obtain ⟨q,rfl,N,a,A,q0,q3,f⟩:=HM.out k a3;have e0:wr.cell? ⟨q,k * 5,none⟩=some (.int .i64 ml[k].1.id):=(z.out.cell N).trans q0;have e3:wr.cell? ⟨q,k * 5+3,none⟩=some (.slice a ml[k].1.tos.length A):=(z.out.cell N).trans q3;have o0:wr.cell? ⟨w.heap.size,0,none⟩=some (.int .i64 m.id):=(z.out.cell z0).trans O0.out;have E3:=Lib.hid q3;have H:=Lib.hid f;have a6:=b0.out k a3;have M:=Lib.hid a6;obtain ⟨x,ex⟩:∃x,ml[k].1=x:=⟨_,rfl⟩;have a8:=Lib.hid ex;rw [ex] at e0 e3 H M E3;clear q0 q3 f a6 ex
   by_cases G:x.id=m.id
   ·have Z:(x.id:Int)=(m.id:Int):=by omega
    have L:=Lib.hid G;clear G;go_wp2_with fail
    go_region_held3 (fun r=>r.cell? ⟨gb,11,none⟩=some (.slice (some ⟨q,0,none⟩) ml.length V)∧r.cell? ⟨q,k * 5,none⟩=some (.int .i64 x.id)∧r.cell? ⟨w.heap.size,0,none⟩=some (.int .i64 m.id)) (exact ⟨p,e0,o0⟩) (fail)
    go_wp2_with fail
    go_loopw [6] (fun i b3=>∃j:Nat,j≤m.tos.length∧i= .int .i64 j∧Hid (Below n.heap.size n b3)) (fun i _=>m.tos.length - (intOf i).toNat)
    case atStart=>exact ⟨0,Nat.zero_le _,rfl,Lib.hid z.out.drew⟩
    case round=>
     obtain ⟨j,B,rfl,s⟩:=hrel;have p:wr.cell? ⟨gb,11,none⟩=some (.slice (some ⟨q,0,none⟩) ml.length V):=(s.out.cell Y).trans R.out;have e3:wr.cell? ⟨q,k * 5+3,none⟩=some (.slice a x.tos.length A):=(s.out.cell N).trans E3.out;have o3:wr.cell? ⟨w.heap.size,3,none⟩=some (.slice P m.tos.length Q):=(s.out.cell z0).trans O3.out
     by_cases a1:j < m.tos.length
     ·have a2:(j:Int) < (m.tos.length:Int):=by omega
      obtain ⟨b,o,rfl,X,l⟩:=U.out j a1;have l:wr.cell? ⟨b,o+j,none⟩=some (.string (bs m.tos[j])):=(s.out.cell X).trans l;have d:=a9.out x M.out L.out m.tos[j] (List.getElem_mem a1)
      generalize m.tos[j]=t at l d
      have T:Hid (Calls Tryz.prog 36 #[.slice a x.tos.length A,.string (bs t)] wr.drew fun e r=>e= .returned (.bool true)∧wr.drew=r):=Lib.hid (by
       have:=zt x.tos t (.slice a x.tos.length A) wr.drew (H.out.below (s.out.trans ((Below.refl _ wr).drew))) (by have:=b1.out x M.out;omega);rw [List.contains_iff_mem.2 d] at this
       exact this)
      clear d;go_wp2_with fail
      go_region_held3 (fun r=>r.cell? ⟨gb,11,none⟩=some (.slice (some ⟨q,0,none⟩) ml.length V)∧r.cell? ⟨q,k * 5+3,none⟩=some (.slice a x.tos.length A)∧r.cell? ⟨w.heap.size,3,none⟩=some (.slice (some ⟨b,o,none⟩) m.tos.length Q)∧r.cell? ⟨b,o+j,none⟩=some (.string (bs t)))
       (exact ⟨p,e3,o3,l⟩)
       (first | (go_at_call 36;refine T.out.mono ?_;rintro e w2 ⟨rfl,rfl⟩))
      go_wp2_with fail
      exact ⟨⟨j+1,by omega,by go_num,Lib.hid s.out.drew⟩,by simp [intOf];omega⟩
     ·have a2:¬(j:Int) < (m.tos.length:Int):=by omega
      go_wp2_with fail
      go_ret;exact ⟨rfl,D.out.trans (s.out.mono D.out.size)⟩
   ·have Z:¬(x.id:Int)=(m.id:Int):=by omega
    have L:=Lib.hid G;clear G;go_wp2_with fail
    go_region_held3 (fun r=>r.cell? ⟨gb,11,none⟩=some (.slice (some ⟨q,0,none⟩) ml.length V)∧r.cell? ⟨q,k * 5,none⟩=some (.int .i64 x.id)∧r.cell? ⟨w.heap.size,0,none⟩=some (.int .i64 m.id)) (exact ⟨p,e0,o0⟩) (fail)
    go_wp2_with fail
    exact ⟨⟨k+1,by omega,by go_num,Lib.hid (fun j B c4=>by
     by_cases e:j < k
     ·exact HN.out j B e
     ·obtain rfl:j=k:=by omega
      rw [a8.out]
      exact L.out),Lib.hid z.out.drew⟩,by simp [intOf];omega⟩
  ·have a4:¬(k:Int) < (ml.length:Int):=by omega
   obtain ⟨r1,r2,r3,r4⟩:=a7.out (fun j B=>HN.out j B (by omega));have o2:wr.cell? ⟨w.heap.size,2,none⟩=some (.string (bs [])):=by rw [←r1];exact (z.out.cell z0).trans O2.out
   have o3:wr.cell? ⟨w.heap.size,3,none⟩=some (.slice P 1 Q):=by rw [←r2];exact (z.out.cell z0).trans O3.out
   have o4:wr.cell? ⟨w.heap.size,4,none⟩=some (.string (bs m.body)):=(z.out.cell z0).trans O4.out;have b7:(14:Int) < (m.body.length:Int):=by omega
   have b4:(14:Int)≤(m.body.length:Int):=by omega
   have c3:(bs m.body).extract 0 14=bs Hf:=by rw [gw,List.drop_zero,r4]
   have c1:(bs ([]:List UInt8)).toList.isEmpty=true:=by rw [ByteArray.toList_eq,aQ];rfl
   have c2:((bs Hf).toList == [78,111,116,32,100,101,108,105,118,101,114,101,100,58])=true:=by rw [wR];rfl
   clear r1 r2 r3 r4;go_wp2_with fail
   go_ret;exact ⟨rfl,D.out.trans (z.out.mono D.out.size)⟩
end
theorem Iz {m:aR} (h:vh m):m.frm=[]∧m.tos.length=1∧14 < m.body.length∧m.body.take 14=Hf:=by
 obtain ⟨b,c,N,d,a⟩:=h;refine ⟨b,c,?_,?_⟩
 ·rw [a]
  cases N with
  | nil=>exact absurd rfl d
  | cons t r=>
   unfold fu;rw [List.length_append,List.flatMap_cons,List.length_append,List.length_append];have:FW.length=14:=rfl;simp only [List.length_cons,List.length_nil];omega
 ·rw [a];unfold fu;rw [List.take_append_of_le_length (by decide)];rfl
theorem BV {S:aa} (o:S.Ok) {m:aR} (p:m∈ji S.items):∃i,i < S.items.length∧m.id=i+1∧m.frm=(S.mailOf i).frm∧m.body=(S.mailOf i).body∧(∀t∈m.tos,t∈(S.mailOf i).tos)∧1≤m.tos.length∧m.tos.length≤(S.mailOf i).tos.length∧dq m:=by
 unfold ji at p;obtain ⟨p,n⟩:=List.mem_filter.1 p;obtain ⟨x,v,rfl⟩:=List.mem_map.1 p;obtain ⟨i,k,rfl⟩:=List.getElem_of_mem v;obtain ⟨w,y,z,u⟩:=o.sz _ (List.getElem_mem k)
 have g:∀t∈(S.items[i].now).tos,t∈S.items[i].m.tos:=fun t s=>by
  obtain ⟨j,l,rfl⟩:=List.mem_map.1 (show t∈(ix S.items[i].out S.items[i].out.length).map _ from s);have l:=((lg _ _).1 l).1;rw [u] at l;rw [List.getD_eq_getElem?_getD,List.getElem?_eq_getElem l];exact List.getElem_mem l
 have q:(S.items[i].now).tos.length≤S.items[i].m.tos.length:=by
  show ((ix S.items[i].out S.items[i].out.length).map _).length≤_;rw [List.length_map,←u];exact sZ _ _
 refine ⟨i,k,o.id i k,by rw [bR k];rfl,by rw [bR k];rfl,by rw [bR k];exact g,?_,by rw [bR k];exact q,?_⟩
 ·cases h:(S.items[i].now).tos with
  | nil=>rw [h] at n;cases n
  | cons t r=>simp
 ·obtain ⟨a,b,c,d,e,f⟩:=w;exact ⟨a,b,c,by omega,fun t s=>e t (g t s),f⟩
theorem Hs {g:GS} (l:iq g) (a:g.S.Ok) {m:aR} (n:m∈ji g.S.items):(∀x∈g.mails,x.id=m.id→∀t∈m.tos,t∈x.tos)∧((∀x∈g.mails,x.id≠m.id)→CD m)∧dq m:=by
 obtain ⟨i,d,c,f,h,j,w,y,k⟩:=BV a n;obtain ⟨u,v⟩:=l.told i d;refine ⟨fun x b e t p=>u x b (by rw [e,c]) t (j t p),fun o=>?_,k⟩;obtain ⟨q,z,r,s⟩:=Iz (v fun x b=>by rw [←c];exact o x b);unfold CD;rw [f,h];exact ⟨q,by omega,r,s⟩
theorem Hl {c:bT} {w d:World} {e:Ending} (h:CB c [] w e d):∃(E own:Nat→Prop) (a:Nat),e= .returned (.tuple #[.pointer (some ⟨a,0,none⟩),.int .i64 0])∧hJ E own a c d ⟨[],0⟩ [] [] none (fun _=>(0,0))∧(∀k,E k→xu k∨w.heap.size≤k)∧(∀k,own k→w.heap.size≤k)∧¬xu a∧Below w.heap.size w d:=by
 obtain ⟨K,E,a,l,j,q,o,v,u,g,b,s,r,t⟩:=h;rw [Ei] at g b r;have p:@bJ K E a l j c d q o ⟨[],0⟩ [] (.slice none 0 0) []:=⟨g,(fun n x e=>by cases e),(fun n m x y _ e=>by cases e),by decide,by decide,yq.nil 0,b⟩
 refine ⟨E,dP d l j q o ⟨[],0⟩ (.slice none 0 0) [],a,u,⟨K,l,j,q,o,_,[],none,p,v,(fun i f=>by cases f),rfl,rfl,(fun i f=>by cases f),fun k e=>e.elim id (fun e=>by cases e),fun k e=>mA _ p e⟩,s,fun k e=>?_,g.gpp,t⟩
 rcases e with e | e | ⟨n,x,e,_⟩
 ·exact r k e
 ·cases e
 ·cases e
def IZ (c:bT) (w:World) (e:Ending) (w':World):Prop:=
 ∃gb E own pp vS vM sl ml,e= .returned (.pointer (some ⟨gb,0,none⟩))∧gL E own pp gb c w' vS vM sl ml (GQ c)∧(∀k,k=pp∨own k∨fM gb vS vM k→w.heap.size≤k)∧Below w.heap.size w w'
theorem DL {a b d:Int} (c:iL (dm a b d)=true):ym (dm a b d):=by
 have h:=jQ c;unfold ym;exact ⟨by have:=h.host;unfold maxLen;omega,by have:=h.doms;omega,fun x e=>by have:=h.domz x e;unfold maxLen;omega,by have:=h.nets;omega,by have:=h.users;omega,fun x e=>by have:=h.userz x e;unfold maxLen;omega,by have:=h.waits;omega⟩
theorem AH {a b d:Int} (ha:0≤a∧a < 10) (hb:0≤b∧b < 1000) (hd:0≤d∧d < 60) (vD vN vU vW:Value) (w:World) (h:jD w (dm a b d) vD vN vU vW) (hg:iu w):
  Calls Tryz.prog 7 #[.agg #[.string (dm a b d).host,vD,vN,vU,.int .i64 (dm a b d).most,.int .i64 (dm a b d).size,vW,.int .i64 (dm a b d).life,.int .i64 (dm a b d).room]] w (IZ (dm a b d) w):=by
 have q:=sT ha hb hd;have c6:=DL q;have O:=EZ (a:=a) (b:=b) (d:=d) ha.1 hb.1;have c2:=yH (a:=a) (b:=b) (d:=d);obtain ⟨c,ec⟩:∃c,dm a b d=c:=⟨_,rfl⟩;rw [ec] at h q c6 O c2 ⊢;clear ec ha hb hd;obtain ⟨aD,cD,eD⟩:=aE h.1;obtain ⟨aN,cN,eN⟩:=aE h.2.1;obtain ⟨aU,cU,eU⟩:=aE h.2.2.1;obtain ⟨aW,cW,eW⟩:=aE h.2.2.2;subst eD eN eU eW;obtain ⟨nD,e3⟩:∃n,c.doms.length=n:=⟨_,rfl⟩;obtain ⟨nN,e4⟩:∃n,c.nets.length=n:=⟨_,rfl⟩;obtain ⟨nU,e5⟩:∃n,c.users.length=n:=⟨_,rfl⟩;obtain ⟨nW,e6⟩:∃n,c.waits.length=n:=⟨_,rfl⟩;obtain ⟨fh,e2⟩:∃n,c.host=n:=⟨_,rfl⟩;obtain ⟨f4,d8⟩:∃n,c.most=n:=⟨_,rfl⟩;obtain ⟨f5,d9⟩:∃n,c.size=n:=⟨_,rfl⟩;obtain ⟨f7,e0⟩:∃n,c.life=n:=⟨_,rfl⟩;obtain ⟨f8,e1⟩:∃n,c.room=n:=⟨_,rfl⟩;obtain ⟨C0,b5⟩:∃C:Array Value,#[.string fh,.slice aD nD cD,.slice aN nN cN,.slice aU nU cU,.int .i64 f4,.int .i64 f5,.slice aW nW cW,.int .i64 f7,.int .i64 f8]=C:=⟨_,rfl⟩;have X0:=heap_alloc_new w (.cells C0 30);have b0:Below w.heap.size w (w.alloc (.cells C0 30)):=(Below.refl _ _).alloc (Nat.le_refl _) _;obtain ⟨W0,Y⟩:∃W:World,w.alloc (.cells C0 30)=W:=⟨_,rfl⟩;rw [Y] at X0 b0;have A:=D7 c _ _ _ _ [] W0 (h.below b0) c6 q (hg.below b0) (by decide);rw [e3,e4,e5,e6,e2,d8,d9,e0,e1] at A ⊢;rw [←b5] at Y;have HO:=Lib.hid A;have g6:=Lib.hid X0;have a2:=Lib.hid b0;have g5:=Lib.hid Y;have HG:=Lib.hid hg;have i5:w.heap.size < W0.heap.size:=ah X0;have i1:=Lib.hid q;have c9:=Lib.hid O;have f9:=Lib.hid c2;have l:=Lib.hid b5;clear b5 h X0 b0 Y A c6 q O c2 hg e3 e4 e5 e6 e2 d8 d9 e0 e1;go_enter Tryz.func7,Tryz.ntmps7;go_wp2_with fail
 rw [g5.out];refine HO.out.mono ?_;intro e i f0;obtain ⟨E,own,pp,rfl,hP,hE,hO,e9,c0⟩:=Hl f0;have S:=ae c0 g6.out;have y0:i.cell? ⟨w.heap.size,0,none⟩=some (.string fh):=by rw [Lib.cell_of_heap S,←l.out];rfl
 have y1:i.cell? ⟨w.heap.size,1,none⟩=some (.slice aD nD cD):=by rw [Lib.cell_of_heap S,←l.out];rfl
 have y2:i.cell? ⟨w.heap.size,2,none⟩=some (.slice aN nN cN):=by rw [Lib.cell_of_heap S,←l.out];rfl
 have y3:i.cell? ⟨w.heap.size,3,none⟩=some (.slice aU nU cU):=by rw [Lib.cell_of_heap S,←l.out];rfl
 have y4:i.cell? ⟨w.heap.size,4,none⟩=some (.int .i64 f4):=by rw [Lib.cell_of_heap S,←l.out];rfl
 have y5:i.cell? ⟨w.heap.size,5,none⟩=some (.int .i64 f5):=by rw [Lib.cell_of_heap S,←l.out];rfl
 have y6:i.cell? ⟨w.heap.size,6,none⟩=some (.slice aW nW cW):=by rw [Lib.cell_of_heap S,←l.out];rfl
 have y7:i.cell? ⟨w.heap.size,7,none⟩=some (.int .i64 f7):=by rw [Lib.cell_of_heap S,←l.out];rfl
 have y8:i.cell? ⟨w.heap.size,8,none⟩=some (.int .i64 f8):=by rw [Lib.cell_of_heap S,←l.out];rfl
 have HP:=Lib.hid hP;have HE:=Lib.hid hE;have g0:=Lib.hid hO;have H:=Lib.hid c0;have f6:=Lib.hid e9;clear hP hE hO c0 S f0 HO e9;go_wp2_with fail
 obtain ⟨C2,b6⟩:∃C:Array Value,#[.pointer (some ⟨pp,0,none⟩),.string fh,.slice aD nD cD,.slice aN nN cN,.slice aU nU cU,.int .i64 f4,.int .i64 f5,.slice aW nW cW,.int .i64 f7,.int .i64 f8,.slice none 0 0,.slice none 0 0,.int .i64 0,.bool false]=C:=⟨_,rfl⟩;have x2:=heap_alloc_new i (.cells C2 41);have b2:Below i.heap.size i (i.alloc (.cells C2 41)):=(Below.refl _ _).alloc (Nat.le_refl _) _;have z2:(i.alloc (.cells C2 41)).heap.size=i.heap.size+1:=by simp
 rw [b6];have a8:=Lib.hid b6;clear b6;obtain ⟨W2,e7⟩:∃W:World,i.alloc (.cells C2 41)=W:=⟨_,rfl⟩;rw [e7] at x2 b2 z2 ⊢;clear e7;have P2:=HP.out.below b2;have a9:=P2.conn 1 (by decide) (by decide) (by decide);rw [f9.out,show bs [50,50,48,32,109,120,46,111,114,103,13,10]=⟨#[50,50,48,32,109,120,46,111,114,103,13,10]⟩ from rfl] at a9;refine a9.mono ?_;rintro e w3 ⟨rfl,Z,P3,p,K3⟩;have f2:pp < i.heap.size:=HP.out.elt HP.out.epp;have F:∀k,own k→W0.heap.size≤k∧k < i.heap.size:=fun k e=>⟨g0.out k e,HP.out.lt e⟩;have f1:W0.heap.size≤pp:=(HE.out pp HP.out.epp).resolve_left f6.out;have x3:=K3.some_ x2 (fun e=>e.elim (fun e=>by omega) (fun e=>by have:=F _ e;omega))
 have Q:∀k,Z k→W0.heap.size≤k∧k≠i.heap.size:=fun k e=>by
  have hz:=H.out.size
  rcases p k e with e | e
  ·have:=F k e;omega
  ·omega
 have B3:Below w.heap.size w w3:=((a2.out.trans (H.out.mono a2.out.size)).trans (b2.mono (by have:=H.out.size;omega))).trans (K3.toBelow (fun k e=>e.elim (fun e=>by omega) (fun e=>by have:=F k e;omega)) (by have:=H.out.size;omega));have HR:=P3.recv 0 (s:=gx c 1) rfl Ig (by decide);rw [c9.out,show bs CH=⟨#[50,53,48,32,109,120,46,111,114,103,13,10,50,53,48,32,111,107,13,10,50,53,48,32,111,107,13,10,51,53,52,32,103,111,13,10,50,53,48,32,107,101,112,116,32,49,13,10]⟩ from rfl] at HR;have d1:=Lib.hid HR;have d2:=Lib.hid x3;have a5:=Lib.hid B3;have d0:=Lib.hid Q;clear HR x3 B3 Q K3 p P3 a9 P2 x2 b2;go_wp2_with fail
 refine d1.out.mono ?_;rintro e w4 ⟨rfl,t,P4,o4,K4⟩;have P4:hJ E t pp c w4 AF GR [some (dk c)] none (qU ⟨[],0⟩ AF (fun _=>(0,0))):=P4;have i6:i.heap.size < w3.heap.size:=ah d2.out;have b4:∀k,k=pp∨Z k→W0.heap.size≤k∧k≠i.heap.size:=fun k e=>e.elim (fun e=>by omega) (d0.out k);have x4:=K4.some_ d2.out (fun e=>(b4 _ e).2 rfl);have B4:Below w.heap.size w w4:=a5.out.trans (K4.toBelow (fun k e=>by have:=(b4 k e).1;omega) a5.out.size)
 have R:∀k,t k→w.heap.size≤k∧k≠i.heap.size:=fun k e=>by
  have:=a5.out.size
  rcases o4 k e with e | e
  ·have:=d0.out k e;omega
  ·omega
 have hQ:=P4.queue;have HQ:=Lib.hid hQ;have g7:=Lib.hid x4;have a6:=Lib.hid B4;have b1:=Lib.hid R;have b3:=Lib.hid P4;have i4:=Lib.hid f2;have g4:=Lib.hid f1;clear x4 B4 R P4 o4 K4 d1 hQ b4 F f2 f1;go_wp2_with fail
 refine HQ.out.mono ?_;rintro e f ⟨v,a0,rfl,hr,he,c1⟩;rw [yI] at he
 obtain ⟨⟨m0,g2⟩,rfl⟩:∃x,a0=[x]:=by
  cases a0 with
  | nil=>cases he
  | cons x r=>cases r with
   | nil=>exact ⟨x,rfl⟩
   | cons y r=>simp at he
 have em:m0=si:=by simpa using he
 subst em
 obtain ⟨g,d7,I,ev,P⟩:∃g d7 I,v= .slice (some ⟨g,0,none⟩) 1 d7∧f.heap[g]? =some (.cells I 45 (0,0))∧I.toList.take 5=(aV si (gI (si,g2)).2).toList:=by
  rcases hr.row.2 with ⟨_,h0⟩ | ⟨g,cp,I,e,_,hg,_,_,_,h7⟩
  ·cases h0
  ·exact ⟨g,cp,I,e,hg,by simpa [fv,show (gI (si,g2)).1=si from rfl] using h7⟩
 have G:∀j,j < 5→f.cell? ⟨g,j,none⟩=(aV si (gI (si,g2)).2).toList[j]? :=fun j hj=>by
  rw [Lib.cell_of_heap P.1,←Array.getElem?_toList,←List.getElem?_take_of_lt hj,P.2]
 have t0:f.cell? ⟨g,0,none⟩=some (.int .i64 1):=G 0 (by decide);have t1:f.cell? ⟨g,1,none⟩=some (.int .i64 0):=G 1 (by decide);have t2:f.cell? ⟨g,2,none⟩=some (.string ⟨#[]⟩):=G 2 (by decide);have t3:f.cell? ⟨g,3,none⟩=some (.slice (some ⟨g2,0,none⟩) 1 1):=G 3 (by decide);have t4:f.cell? ⟨g,4,none⟩=some (.string ⟨#[]⟩):=G 4 (by decide);subst ev;have x5:=ae c1 g7.out;have g8:=Lib.hid x5;have x6:∀o:Obj,(f.alloc o).heap[i.heap.size]? =some (.cells C2 41 (0,0)):=fun o=>ae ((Below.refl _ f).alloc (Nat.le_refl _) o) x5;have u10:∀o:Obj,(f.alloc o).cell? ⟨i.heap.size,10,none⟩=some (.slice none 0 0):=fun o=>by rw [Lib.cell_of_heap (x6 o),←a8.out];rfl
 have x7:∀(V:Value) (B D p:Obj),((((f.alloc B).setCell ⟨i.heap.size,10,none⟩ V).alloc D).alloc p).heap[i.heap.size]? =some (.cells (C2.setIfInBounds 10 V) 41 (0,0)):=fun V B D p=>ae ((Below.refl _ _).alloc (Nat.le_refl _) p) (ae ((Below.refl _ _).alloc (Nat.le_refl _) D) (heap_setCell_same _ i.heap.size 10 _ _ V (x6 B)));have u11:∀(V:Value) (B D p:Obj),((((f.alloc B).setCell ⟨i.heap.size,10,none⟩ V).alloc D).alloc p).cell? ⟨i.heap.size,11,none⟩=some (.slice none 0 0):=fun V B D p=>by rw [Lib.cell_of_heap (x7 V B D p),←a8.out];rfl
 have i9:∀(V:Value) (B D p:Obj),((((f.alloc B).setCell ⟨i.heap.size,10,none⟩ V).alloc D).alloc p).frozen? ⟨i.heap.size,11,none⟩=false:=fun V B D p=>Lib.frozen_of_heap (x7 V B D p) 11;have g9:=Lib.hid x7;have i8:∀o:Obj,(f.alloc o).frozen? ⟨i.heap.size,10,none⟩=false:=fun o=>Lib.frozen_of_heap (x6 o) 10;have a7:=Lib.hid c1;clear hr he P G x5 c1 HQ x6 x7;go_wp2_with fail
 obtain ⟨B,c3⟩:∃o:Obj,.cells #[.int .i64 1,.bool false,.bool false,.bool false,.slice none 0 0] 51=o:=⟨_,rfl⟩;obtain ⟨D,c4⟩:∃o:Obj,.cells #[.string ⟨#[98,64,97,46,111,114,103]⟩] 9=o:=⟨_,rfl⟩;obtain ⟨p,c5⟩:∃o:Obj,.cells #[.int .i64 1,.int .i64 0,.string ⟨#[]⟩,.slice (some ⟨f.heap.size+1,0,none⟩) 1 1,.string ⟨#[]⟩] 45=o:=⟨_,rfl⟩;rw [c3,c4,c5];go_ret;obtain ⟨V1,b7⟩:∃V:Value,.slice (some ⟨f.heap.size,0,none⟩) 1 1=V:=⟨_,rfl⟩;obtain ⟨V2,b8⟩:∃V:Value,.slice (some ⟨f.heap.size+1+1,0,none⟩) 1 1=V:=⟨_,rfl⟩;rw [b7,b8];obtain ⟨u,T⟩:∃u,i.heap.size=u:=⟨_,rfl⟩;rw [T];obtain ⟨A1,K⟩:∃W:World,f.alloc B=W:=⟨_,rfl⟩;have a1:=heap_alloc_new f (.cells #[.int .i64 1,.bool false,.bool false,.bool false,.slice none 0 0] 51);rw [c3,K] at a1;have h2:aF (fun k=>k=u) f A1:=by rw [←K];exact aF.below ((Below.refl _ f).alloc (Nat.le_refl _) B)
 have i0:A1.heap.size=f.heap.size+1:=by rw [←K];simp
 rw [K];obtain ⟨A2,U⟩:∃W:World,A1.setCell ⟨u,10,none⟩ V1=W:=⟨_,rfl⟩;have h3:aF (fun k=>k=u) A1 A2:=by rw [←U];exact aF.same ((aH.refl _ _).setCell _)
 have c8:A2.heap.size=f.heap.size+1:=by rw [←U];simpa using i0
 rw [U];obtain ⟨A3,L⟩:∃W:World,A2.alloc D=W:=⟨_,rfl⟩;have a3:=heap_alloc_new A2 (.cells #[.string ⟨#[98,64,97,46,111,114,103]⟩] 9);rw [c4,L] at a3;have h4:aF (fun k=>k=u) A2 A3:=by rw [←L];exact aF.below ((Below.refl _ A2).alloc (Nat.le_refl _) D)
 have f3:A3.heap.size=f.heap.size+2:=by rw [←L];simp [c8]
 rw [L];obtain ⟨A4,X⟩:∃W:World,A3.alloc p=W:=⟨_,rfl⟩;have a4:=heap_alloc_new A3 (.cells #[.int .i64 1,.int .i64 0,.string ⟨#[]⟩,.slice (some ⟨f.heap.size+1,0,none⟩) 1 1,.string ⟨#[]⟩] 45);rw [c5,X] at a4;have h5:aF (fun k=>k=u) A3 A4:=by rw [←X];exact aF.below ((Below.refl _ A3).alloc (Nat.le_refl _) p)
 rw [X];have x7:=g9.out V1 B D p;rw [T,K,U,L,X] at x7;have x8:=heap_setCell_same _ u 11 _ _ V2 x7;obtain ⟨W8,e8⟩:∃W:World,A4.setCell ⟨u,11,none⟩ V2=W:=⟨_,rfl⟩;have h6:aF (fun k=>k=u) A4 W8:=by rw [←e8];exact aF.same ((aH.refl _ _).setCell _)
 rw [e8] at x8 ⊢;have d5:=h6;have d4:=h5.trans d5 (fun _ _ e=>e);have h1:=h4.trans d4 (fun _ _ e=>e);have d3:=h3.trans h1 (fun _ _ e=>e);have d6:=h2.trans d3 (fun _ _ e=>e);have i2:u < f.heap.size:=by rw [←T];exact ah g8.out
 have s1:=d3.some_ a1 (by omega);have s3:=d4.some_ a3 (by rw [c8];omega);have s4:=d5.some_ a4 (by rw [f3];omega);rw [←c3] at s1;rw [←c4,c8] at s3;rw [←c5,f3] at s4;have P8:=(b3.out.below a7.out).chg d6 (fun k e x=>by have:=HP.out.elt e;omega) (fun k e x=>(b1.out k e).2 (by omega));have i3:w.heap.size≤u:=by have:=a2.out.size;have:=H.out.size;omega
 have c7:w4.heap.size≤f.heap.size:=a7.out.size;have h8:w.heap.size≤f.heap.size:=Nat.le_trans a6.out.size c7;have m:∀k,t k→k < f.heap.size:=fun k e=>Nat.lt_of_lt_of_le (b3.out.lt e) c7;have J:∀k,E k→k < f.heap.size:=fun k e=>Nat.lt_of_lt_of_le (b3.out.elt e) c7;have M:V1.ownBlock=some f.heap.size:=by rw [←b7];rfl
 have N:V2.ownBlock=some (f.heap.size+1+1):=by rw [←b8];rfl
 have h9:∀k,fM u V1 V2 k→k < W8.heap.size∧¬E k∧¬t k:=fun k e=>by
  rcases e with e | e | e
  ·rw [e];exact ⟨ah x8,fun z=>by have:=HP.out.elt z;omega,fun z=>(b1.out u z).2 T.symm⟩
  ·rw [M] at e;injection e with e;rw [←e];exact ⟨ah s1,fun z=>by have:=J _ z;omega,fun z=>by have:=m _ z;omega⟩
  ·rw [N] at e;injection e with e;rw [←e];exact ⟨ah s4,fun z=>by have:=J _ z;omega,fun z=>by have:=m _ z;omega⟩
 refine ⟨u,E,t,pp,V1,V2,[(⟨1,false,false,false,[]⟩,.slice none 0 0)],[(⟨1,0,[],[ql],[]⟩,.slice (some ⟨f.heap.size+1,0,none⟩) 1 1)],rfl,⟨P8,⟨_,x8,?_⟩,?_,?_,rfl,rfl,?_,?_,h9⟩,fun k e=>?_,?_⟩
 ·rw [←a8.out];exact ⟨rfl,rfl,rfl,rfl,rfl,rfl⟩
 ·rw [←b7];exact ⟨rfl,.inr ⟨f.heap.size,1,_,rfl,Nat.zero_le _,s1,Nat.le_refl _,by unfold maxLen;omega,rfl,rfl⟩⟩
 ·rw [←b8];exact ⟨rfl,.inr ⟨f.heap.size+1+1,1,_,rfl,Nat.zero_le _,s4,Nat.le_refl _,by unfold maxLen;omega,rfl,rfl⟩⟩
 ·intro x hx;rw [List.mem_singleton.1 hx];exact ib.nil _
 ·intro x hx;rw [List.mem_singleton.1 hx];refine ⟨?_,fun k e=>?_⟩
  ·exact ⟨rfl,.inr ⟨f.heap.size+1,0,1,rfl,Nat.le_refl _,fun j hj=>by rw [Nat.zero_add,Lib.cell_of_heap s3,←Array.getElem?_toList];rfl⟩⟩
  ·have e:f.heap.size+1=k:=by simpa [Value.ownBlock] using e
   rw [←e];refine ⟨ah s3,fun z=>by have:=J _ z;omega,fun z=>by have:=m _ z;omega,fun z=>?_⟩
   rcases z with z | z | z
   ·omega
   ·rw [M] at z;injection z with z;omega
   ·rw [N] at z;injection z with z;omega
 ·rcases e with e | e | e | e | e
  ·have:=g4.out;omega
  ·exact (b1.out k e).1
  ·omega
  ·rw [M] at e;injection e with e;omega
  ·rw [N] at e;injection e with e;omega
 ·exact (a6.out.trans (a7.out.mono a6.out.size)).trans (d6.toBelow (fun k e=>by omega) h8)
end Go.Proofs.YtofpegbpgkkgkaaGreatDoor
