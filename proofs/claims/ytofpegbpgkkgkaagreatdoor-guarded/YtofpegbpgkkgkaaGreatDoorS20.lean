import Derived.Test.YtofpegbpgkkgkaaGreatDoorS19
import Derived.Test.YtofpegbpgkkgkaaGreatDoorS10
namespace Go.Proofs.YtofpegbpgkkgkaaGreatDoor
set_option maxHeartbeats 8000000
set_option maxRecDepth 1000000
open Go.RowKit
structure bT where
 host:ByteArray
 doms:List ByteArray
 nets:List (Int×Int)
 users:List (ByteArray×ByteArray)
 most:Int
 size:Int
 waits:List Int
 life:Int
 room:Int
def jD (w:World) (c:bT) (vD vN vU vW:Value):Prop:=
 aZ w vD c.doms.length 1 (dC c.doms)∧aZ w vN c.nets.length 2 (gR c.nets)∧aZ w vU c.users.length 2 (cB c.users)∧aZ w vW c.waits.length 1 (gP c.waits)
theorem jD.below {w g:World} {c:bT} {b d e f:Value} (h:jD w c b d e f) (a:Below w.heap.size w g):jD g c b d e f:=⟨h.1.below a,h.2.1.below a,h.2.2.1.below a,h.2.2.2.below a⟩
def ym (c:bT):Prop:=
 c.host.size≤maxLen∧c.doms.length≤140737488351232∧(∀s∈c.doms,s.size≤maxLen)∧c.nets.length≤140737488351232∧c.users.length≤140737488351232∧(∀x∈c.users,x.1.size≤maxLen∧x.2.size≤maxLen)∧c.waits.length≤140737488351232
def bT.val (c:bT) (vD vN vU vW:Value):Value:= .agg #[.string c.host,vD,vN,vU,.int .i64 c.most,.int .i64 c.size,vW,.int .i64 c.life,.int .i64 c.room]
def iL (c:bT):Bool:=iK c.host.data.toList && ny c.doms && mw c.nets && j7 c.users && cd c.most 1 10 && cd c.size 1 1000 && j9 c.waits && cd c.life 1 1000000000 && cd c.room 0 1000000
theorem aE {w:World} {v:Value} {n d:Nat} {c:List Value} (h:aZ w v n d c):∃a b,v= .slice a n b:=by
 obtain ⟨a,b,h,_⟩:=h.shape;exact ⟨a,b,h⟩
theorem DV (c:bT) (vD vN vU vW:Value) (m:Int) (w:World) (h:jD w c vD vN vU vW) (hz:ym c) (hm:w.cell? ⟨0,0,none⟩=some (.int .i64 m)):
  Calls Tryz.prog 68 #[.agg #[.string c.host,vD,vN,vU,.int .i64 c.most,.int .i64 c.size,vW,.int .i64 c.life,.int .i64 c.room]] w (dR (iL c) w):=by
 obtain ⟨f,b,d,users,i,l,a,g,k⟩:=c;obtain ⟨z0,z1,z2,z3,z4,z5,N⟩:=hz;simp only at z0 z1 z2 z3 z4 z5 N h ⊢;have r:=Lib.hid (show iL ⟨f,b,d,users,i,l,a,g,k⟩=(iK f.data.toList && ny b && mw d && j7 users && cd i 1 10 && cd l 1 1000 && j9 a && cd g 1 1000000000 && cd k 0 1000000) from rfl)
 generalize iL ⟨f,b,d,users,i,l,a,g,k⟩=M at *
 obtain ⟨s,x,eD⟩:=aE h.1;obtain ⟨t,y,eN⟩:=aE h.2.1;obtain ⟨u,z,eU⟩:=aE h.2.2.1;obtain ⟨v,A,eW⟩:=aE h.2.2.2;simp only at eD eN eU eW;subst eD eN eU eW;have HA:=Lib.hid h;have h0:=aA hm;have Z2:=Lib.hid z2;have Z5:=Lib.hid z5;clear h z2 z5;go_enter Tryz.func68,Tryz.ntmps68;go_wp2_with fail
 have E:∀C:World,Below (w.heap.size+1) (w.alloc (.cells #[.string f,.slice s b.length x,.slice t d.length y,.slice u users.length z,.int .i64 i,.int .i64 l,.slice v a.length A,.int .i64 g,.int .i64 k] 30)) C→Below w.heap.size w C∧jD C ⟨f,b,d,users,i,l,a,g,k⟩ (.slice s b.length x) (.slice t d.length y) (.slice u users.length z) (.slice v a.length A)∧C.cell? ⟨0,0,none⟩=some (.int .i64 m)∧∀j:Nat,C.cell? ⟨w.heap.size,j,none⟩=(#[.string f,.slice s b.length x,.slice t d.length y,.slice u users.length z,.int .i64 i,.int .i64 l,.slice v a.length A,.int .i64 g,.int .i64 k]:Array Value)[j]? :=by
  intro C hb;have K:Below w.heap.size w C:=((Below.refl _ _).alloc (Nat.le_refl _) _).trans (hb.mono (by omega));refine ⟨K,HA.out.below K,(K.cell h0).trans hm,fun j=>?_⟩;rw [hb.cell (p:=⟨w.heap.size,j,none⟩) (by show w.heap.size < w.heap.size+1;omega)];exact World.cell?_alloc_mark w _ 30 (0,0) j
 have R:=Lib.hid E;clear E HA hm;have S:Hid (Below (w.heap.size+1) (w.alloc (.cells #[.string f,.slice s b.length x,.slice t d.length y,.slice u users.length z,.int .i64 i,.int .i64 l,.slice v a.length A,.int .i64 g,.int .i64 k] 30)) (w.alloc (.cells #[.string f,.slice s b.length x,.slice t d.length y,.slice u users.length z,.int .i64 i,.int .i64 l,.slice v a.length A,.int .i64 g,.int .i64 k] 30))):=Below.refl _ _;have F:=R.out _ S.out;refine (gX f m _ z0 F.2.2.1).mono ?_;rintro e C ⟨rfl,T⟩;have H:Hid (Below (w.heap.size+1) (w.alloc (.cells #[.string f,.slice s b.length x,.slice t d.length y,.slice u users.length z,.int .i64 i,.int .i64 l,.slice v a.length A,.int .i64 g,.int .i64 k] 30)) C):=S.out.trans (T.mono (by simp));clear F T;have F:=R.out _ H.out;have X:=Lib.hid F.1;have c1:C.cell? ⟨w.heap.size,1,none⟩=some (.slice s b.length x):=F.2.2.2 1;have o:=Lib.hid F;clear F
 cases B:iK f.data.toList with
 | false=>
  go_wp2_with fail
  go_ret;exact dR.mk false rfl (by rw [r.out,B];rfl) X.out
 | true=>
  go_wp2_with fail
  have F:=o.out;clear o;refine (pL _ b m _ F.2.1.1 z1 Z2.out F.2.2.1).mono ?_;rintro e w2 ⟨rfl,U⟩;have I:Hid (Below (w.heap.size+1) (w.alloc (.cells #[.string f,.slice s b.length x,.slice t d.length y,.slice u users.length z,.int .i64 i,.int .i64 l,.slice v a.length A,.int .i64 g,.int .i64 k] 30)) w2):=H.out.trans (U.mono (by have:=H.out.size;simpa using this));clear F U;have F:=R.out _ I.out;have Y:=Lib.hid F.1;have c2:w2.cell? ⟨w.heap.size,2,none⟩=some (.slice t d.length y):=F.2.2.2 2;have o:=Lib.hid F;clear F
  cases D:ny b with
  | false=>
   go_wp2_with fail
   go_ret;exact dR.mk false rfl (by rw [r.out,B,D];rfl) Y.out
  | true=>
   go_wp2_with fail
   have F:=o.out;clear o;refine (uO _ d _ F.2.1.2.1 z3).mono ?_;rintro e w3 ⟨rfl,V⟩;have J:Hid (Below (w.heap.size+1) (w.alloc (.cells #[.string f,.slice s b.length x,.slice t d.length y,.slice u users.length z,.int .i64 i,.int .i64 l,.slice v a.length A,.int .i64 g,.int .i64 k] 30)) w3):=I.out.trans (V.mono (by have:=I.out.size;simpa using this));clear F V;have F:=R.out _ J.out;have Z:=Lib.hid F.1;have c3:w3.cell? ⟨w.heap.size,3,none⟩=some (.slice u users.length z):=F.2.2.2 3;have o:=Lib.hid F;clear F
   cases G:mw d with
   | false=>
    go_wp2_with fail
    go_ret;exact dR.mk false rfl (by rw [r.out,B,D,G];rfl) Z.out
   | true=>
    go_wp2_with fail
    have F:=o.out;clear o;refine (uc _ users _ F.2.1.2.2.1 z4 Z5.out).mono ?_;rintro e Q ⟨rfl,W⟩;have a0:Hid (Below (w.heap.size+1) (w.alloc (.cells #[.string f,.slice s b.length x,.slice t d.length y,.slice u users.length z,.int .i64 i,.int .i64 l,.slice v a.length A,.int .i64 g,.int .i64 k] 30)) Q):=J.out.trans (W.mono (by have:=J.out.size;simpa using this));clear F W;have F:=R.out _ a0.out;have n:=Lib.hid F.1;have c4:Q.cell? ⟨w.heap.size,4,none⟩=some (.int .i64 i):=F.2.2.2 4;have c5:Q.cell? ⟨w.heap.size,5,none⟩=some (.int .i64 l):=F.2.2.2 5;have c6:Q.cell? ⟨w.heap.size,6,none⟩=some (.slice v a.length A):=F.2.2.2 6;have c7:Q.cell? ⟨w.heap.size,7,none⟩=some (.int .i64 g):=F.2.2.2 7;have c8:Q.cell? ⟨w.heap.size,8,none⟩=some (.int .i64 k):=F.2.2.2 8;have hW:=F.2.1.2.2.2;have O:=Lib.hid hW;clear hW;have o:=Lib.hid F;clear F
    cases L:j7 users with
    | false=>
     go_wp2_with fail
     go_ret;exact dR.mk false rfl (by rw [r.out,B,D,G,L];rfl) n.out
    | true=>
     go_wp2_with fail
     have F:=o.out;clear o;clear F
     cases P:cd i 1 10 with
     | false=>
      go_wp2_with (first | (go_at_call 108;refine (bX _ _ _ _).mono ?_;rintro e q ⟨rfl,rfl⟩) | (go_at_call 109;refine (gp _ a _ O.out N).mono ?_;rintro e q ⟨rfl,rfl⟩))
      go_ret;exact dR.mk false rfl (by rw [r.out,B,D,G,L,P];rfl) n.out
     | true=>
      cases q5:cd l 1 1000 with
      | false=>
       go_wp2_with (first | (go_at_call 108;refine (bX _ _ _ _).mono ?_;rintro e q ⟨rfl,rfl⟩) | (go_at_call 109;refine (gp _ a _ O.out N).mono ?_;rintro e q ⟨rfl,rfl⟩))
       go_ret;exact dR.mk false rfl (by rw [r.out,B,D,G,L,P,q5];rfl) n.out
      | true=>
       cases q6:j9 a with
       | false=>
        go_wp2_with (first | (go_at_call 108;refine (bX _ _ _ _).mono ?_;rintro e q ⟨rfl,rfl⟩) | (go_at_call 109;refine (gp _ a _ O.out N).mono ?_;rintro e q ⟨rfl,rfl⟩))
        go_ret;exact dR.mk false rfl (by rw [r.out,B,D,G,L,P,q5,q6];rfl) n.out
       | true=>
        cases q7:cd g 1 1000000000 with
        | false=>
         go_wp2_with (first | (go_at_call 108;refine (bX _ _ _ _).mono ?_;rintro e q ⟨rfl,rfl⟩) | (go_at_call 109;refine (gp _ a _ O.out N).mono ?_;rintro e q ⟨rfl,rfl⟩))
         go_ret;exact dR.mk false rfl (by rw [r.out,B,D,G,L,P,q5,q6,q7];rfl) n.out
        | true=>
         cases q8:cd k 0 1000000 with
         | false=>
          go_wp2_with (first | (go_at_call 108;refine (bX _ _ _ _).mono ?_;rintro e q ⟨rfl,rfl⟩) | (go_at_call 109;refine (gp _ a _ O.out N).mono ?_;rintro e q ⟨rfl,rfl⟩))
          go_ret;exact dR.mk false rfl (by rw [r.out,B,D,G,L,P,q5,q6,q7,q8];rfl) n.out
         | true=>
          go_wp2_with (first | (go_at_call 108;refine (bX _ _ _ _).mono ?_;rintro e q ⟨rfl,rfl⟩) | (go_at_call 109;refine (gp _ a _ O.out N).mono ?_;rintro e q ⟨rfl,rfl⟩))
          go_ret;exact dR.mk true rfl (by rw [r.out,B,D,G,L,P,q5,q6,q7,q8];rfl) n.out
def Iq (b:Bool):Int:=if b then 0 else 2
def yo (b:Bool) (w:World) (e:Ending) (w':World):Prop:=e= .returned (.int .i64 (Iq b))∧Below w.heap.size w w'
theorem yo.mk {b:Bool} {w:World} {e:Ending} {a:World} (c:Bool) (f:e= .returned (.int .i64 (Iq c))) (d:b=c) (g:Below w.heap.size w a):yo b w e a:=⟨by rw [f,d],g⟩
theorem Di (c:bT) (l n o p:Value) (m:Int) (w:World) (h:jD w c l n o p) (k:ym c) (b:w.cell? ⟨0,0,none⟩=some (.int .i64 m)):
  Calls Tryz.prog 42 #[.agg #[.string c.host,l,n,o,.int .i64 c.most,.int .i64 c.size,p,.int .i64 c.life,.int .i64 c.room]] w (yo (iL c) w):=by
 obtain ⟨x,B,q⟩:=aE h.1;obtain ⟨y,C,r⟩:=aE h.2.1;obtain ⟨z,D,s⟩:=aE h.2.2.1;obtain ⟨A,E,t⟩:=aE h.2.2.2;subst q r s t;have d:=Lib.hid h;have i:=Lib.hid k;have u:=aA b;have g:=Lib.hid b;clear h k b;go_enter Tryz.func42,Tryz.ntmps42;go_wp2_with fail
 refine (DV c _ _ _ _ m _ (d.out.below ((Below.refl _ _).alloc (Nat.le_refl _) _)) i.out ?_).mono ?_
 ·exact (((Below.refl w.heap.size w).alloc (Nat.le_refl _) _).cell u).trans g.out
 rintro e v ⟨rfl,a⟩;have f:Hid (Below w.heap.size w v):=((Below.refl _ _).alloc (Nat.le_refl _) _).trans (a.mono (by simp));clear a d i g
 cases j:iL c with
 | false=>
  go_wp2_with fail
  go_ret;exact yo.mk false rfl j f.out
 | true=>
  go_wp2_with fail
  go_ret;exact yo.mk true rfl j f.out
theorem sM:(Tryz.prog.info? 9).map (fun i=>(i.zero,i.size,i.bytes))=some (some (.string ⟨#[]⟩),1,16):=by kernel_rfl
theorem Fw:(Tryz.prog.info? 77).map (fun i=>(i.zero,i.size,i.bytes))=some (some (.agg #[.int .i64 0,.int .i64 0]),2,16):=by kernel_rfl
theorem DI:(Tryz.prog.info? 79).map (fun i=>(i.zero,i.size,i.bytes))=some (some (.agg #[.string ⟨#[]⟩,.string ⟨#[]⟩]),2,32):=by kernel_rfl
theorem Fv:(Tryz.prog.info? 3).map (fun i=>(i.zero,i.size,i.bytes))=some (some (.int .i64 0),1,8):=by kernel_rfl
theorem F7 (l:List ByteArray):∀u∈dC l,u.oneCell'=true:=by
 intro u a;obtain ⟨x,_,rfl⟩:=List.mem_map.1 a;rfl
theorem F4 (l:List Int):∀u∈gP l,u.oneCell'=true:=by
 intro u a;obtain ⟨x,_,rfl⟩:=List.mem_map.1 a;rfl
theorem F5 (l:List (Int×Int)):∀u∈gR l,u.oneCell'=true:=by
 intro u a;obtain ⟨x,_,h⟩:=List.mem_flatMap.1 a
 rcases List.mem_cons.1 h with rfl | h
 ·rfl
 ·rcases List.mem_cons.1 h with rfl | h
  ·rfl
  ·cases h
theorem D6 (l:List (ByteArray×ByteArray)):∀u∈cB l,u.oneCell'=true:=by
 intro u a;obtain ⟨x,_,h⟩:=List.mem_flatMap.1 a
 rcases List.mem_cons.1 h with rfl | h
 ·rfl
 ·rcases List.mem_cons.1 h with rfl | h
  ·rfl
  ·cases h
theorem AL (l:List ByteArray) (v:Value) (w:World) (h:aZ w v l.length 1 (dC l)) (H:l.length≤5):
  Calls Tryz.prog 70 #[v] w fun e z=>∃a c,e= .returned (.slice a l.length c)∧z.ownsRow w.heap.size 9 1 (.slice a l.length c) l.length (dC l)∧Below w.heap.size w z:=by
 obtain ⟨a,f,E⟩:=aE h;subst E
 cases a with
 | none=>
  have i:l.length=0:=by
   rcases h.2 with ⟨i,_⟩ | ⟨b,F,q,e,_⟩
   ·exact i
   ·cases e
  have m:l=[]:=List.length_eq_zero_iff.1 i;subst m;clear h;have G:=fun (w:World) (a:Option Addr) (n c o d:Nat)=>Lib.run_eql_slice_nil (P:=Tryz.prog) w 25 _ a n c o d Tryz.underlying25;go_enter Tryz.func70,Tryz.ntmps70;go_wp2_with fail
  go_ret;exact ⟨none,0,rfl,World.ownsRow_nil _ _ _ _,Below.refl _ _⟩
 | some a=>
  have y:(w.alloc (.cells #[] 9)).heap[w.heap.size]? =some (.cells #[] 9 (0,0)):=heap_alloc_new w _;obtain ⟨g,D,p,x,u,s,j⟩:=jY (P:=Tryz.prog) (w.alloc (.cells #[] 9)) 25 25 9 (.string ⟨#[]⟩) 1 16 Tryz.underlying25 sM rfl (by decide) w.heap.size y (.slice (some a) l.length f) l.length (dC l) (h.below ((Below.refl _ _).alloc (Nat.le_refl _) _)) (F7 l) (by unfold maxLen;omega) (by omega);have r:Below w.heap.size w p:=((Below.refl w.heap.size w).alloc (Nat.le_refl _) _).grown s (by simp) (fun k t=>by injection t with t;omega);have C:=Lib.hid x;have B:=Lib.hid u;have A:=Lib.hid r;clear x u r s j y h;have G:=fun (w:World) (a:Option Addr) (n c o d:Nat)=>Lib.run_eql_slice_nil (P:=Tryz.prog) w 25 _ a n c o d Tryz.underlying25;go_enter Tryz.func70,Tryz.ntmps70
  go_wp2_with (first
   | (at_builtin;refine bH rfl _ _ 25 rfl _ _ (.slice (some ⟨g,0,none⟩) l.length D) p rfl rfl C.out ?_)
   | fail)
  go_ret;exact ⟨_,_,rfl,B.out,A.out⟩
theorem AM (l:List (Int×Int)) (v:Value) (w:World) (h:aZ w v l.length 2 (gR l)) (H:l.length≤5):
  Calls Tryz.prog 71 #[v] w fun e z=>∃a c,e= .returned (.slice a l.length c)∧z.ownsRow w.heap.size 77 2 (.slice a l.length c) l.length (gR l)∧Below w.heap.size w z:=by
 obtain ⟨a,f,E⟩:=aE h;subst E
 cases a with
 | none=>
  have i:l.length=0:=by
   rcases h.2 with ⟨i,_⟩ | ⟨b,F,q,e,_⟩
   ·exact i
   ·cases e
  have m:l=[]:=List.length_eq_zero_iff.1 i;subst m;clear h;have G:=fun (w:World) (a:Option Addr) (n c o d:Nat)=>Lib.run_eql_slice_nil (P:=Tryz.prog) w 26 _ a n c o d Tryz.underlying26;go_enter Tryz.func71,Tryz.ntmps71;go_wp2_with fail
  go_ret;exact ⟨none,0,rfl,World.ownsRow_nil _ _ _ _,Below.refl _ _⟩
 | some a=>
  have y:(w.alloc (.cells #[] 77)).heap[w.heap.size]? =some (.cells #[] 77 (0,0)):=heap_alloc_new w _;obtain ⟨g,D,p,x,u,s,j⟩:=jY (P:=Tryz.prog) (w.alloc (.cells #[] 77)) 26 26 77 (.agg #[.int .i64 0,.int .i64 0]) 2 16 Tryz.underlying26 Fw rfl (by decide) w.heap.size y (.slice (some a) l.length f) l.length (gR l) (h.below ((Below.refl _ _).alloc (Nat.le_refl _) _)) (F5 l) (by unfold maxLen;omega) (by omega);have r:Below w.heap.size w p:=((Below.refl w.heap.size w).alloc (Nat.le_refl _) _).grown s (by simp) (fun k t=>by injection t with t;omega);have C:=Lib.hid x;have B:=Lib.hid u;have A:=Lib.hid r;clear x u r s j y h;have G:=fun (w:World) (a:Option Addr) (n c o d:Nat)=>Lib.run_eql_slice_nil (P:=Tryz.prog) w 26 _ a n c o d Tryz.underlying26;go_enter Tryz.func71,Tryz.ntmps71
  go_wp2_with (first
   | (at_builtin;refine bH rfl _ _ 26 rfl _ _ (.slice (some ⟨g,0,none⟩) l.length D) p rfl rfl C.out ?_)
   | fail)
  go_ret;exact ⟨_,_,rfl,B.out,A.out⟩
theorem AO (l:List (ByteArray×ByteArray)) (v:Value) (w:World) (h:aZ w v l.length 2 (cB l)) (H:l.length≤5):
  Calls Tryz.prog 72 #[v] w fun e z=>∃a c,e= .returned (.slice a l.length c)∧z.ownsRow w.heap.size 79 2 (.slice a l.length c) l.length (cB l)∧Below w.heap.size w z:=by
 obtain ⟨a,f,E⟩:=aE h;subst E
 cases a with
 | none=>
  have i:l.length=0:=by
   rcases h.2 with ⟨i,_⟩ | ⟨b,F,q,e,_⟩
   ·exact i
   ·cases e
  have m:l=[]:=List.length_eq_zero_iff.1 i;subst m;clear h;have G:=fun (w:World) (a:Option Addr) (n c o d:Nat)=>Lib.run_eql_slice_nil (P:=Tryz.prog) w 27 _ a n c o d Tryz.underlying27;go_enter Tryz.func72,Tryz.ntmps72;go_wp2_with fail
  go_ret;exact ⟨none,0,rfl,World.ownsRow_nil _ _ _ _,Below.refl _ _⟩
 | some a=>
  have y:(w.alloc (.cells #[] 79)).heap[w.heap.size]? =some (.cells #[] 79 (0,0)):=heap_alloc_new w _;obtain ⟨g,D,p,x,u,s,j⟩:=jY (P:=Tryz.prog) (w.alloc (.cells #[] 79)) 27 27 79 (.agg #[.string ⟨#[]⟩,.string ⟨#[]⟩]) 2 32 Tryz.underlying27 DI rfl (by decide) w.heap.size y (.slice (some a) l.length f) l.length (cB l) (h.below ((Below.refl _ _).alloc (Nat.le_refl _) _)) (D6 l) (by unfold maxLen;omega) (by omega);have r:Below w.heap.size w p:=((Below.refl w.heap.size w).alloc (Nat.le_refl _) _).grown s (by simp) (fun k t=>by injection t with t;omega);have C:=Lib.hid x;have B:=Lib.hid u;have A:=Lib.hid r;clear x u r s j y h;have G:=fun (w:World) (a:Option Addr) (n c o d:Nat)=>Lib.run_eql_slice_nil (P:=Tryz.prog) w 27 _ a n c o d Tryz.underlying27;go_enter Tryz.func72,Tryz.ntmps72
  go_wp2_with (first
   | (at_builtin;refine bH rfl _ _ 27 rfl _ _ (.slice (some ⟨g,0,none⟩) l.length D) p rfl rfl C.out ?_)
   | fail)
  go_ret;exact ⟨_,_,rfl,B.out,A.out⟩
theorem AP (l:List Int) (v:Value) (w:World) (h:aZ w v l.length 1 (gP l)) (H:l.length≤5):
  Calls Tryz.prog 73 #[v] w fun e z=>∃a c,e= .returned (.slice a l.length c)∧z.ownsRow w.heap.size 3 1 (.slice a l.length c) l.length (gP l)∧Below w.heap.size w z:=by
 obtain ⟨a,f,E⟩:=aE h;subst E
 cases a with
 | none=>
  have i:l.length=0:=by
   rcases h.2 with ⟨i,_⟩ | ⟨b,F,q,e,_⟩
   ·exact i
   ·cases e
  have m:l=[]:=List.length_eq_zero_iff.1 i;subst m;clear h;have G:=fun (w:World) (a:Option Addr) (n c o d:Nat)=>Lib.run_eql_slice_nil (P:=Tryz.prog) w 28 _ a n c o d Tryz.underlying28;go_enter Tryz.func73,Tryz.ntmps73;go_wp2_with fail
  go_ret;exact ⟨none,0,rfl,World.ownsRow_nil _ _ _ _,Below.refl _ _⟩
 | some a=>
  have y:(w.alloc (.cells #[] 3)).heap[w.heap.size]? =some (.cells #[] 3 (0,0)):=heap_alloc_new w _;obtain ⟨g,D,p,x,u,s,j⟩:=jY (P:=Tryz.prog) (w.alloc (.cells #[] 3)) 28 28 3 (.int .i64 0) 1 8 Tryz.underlying28 Fv rfl (by decide) w.heap.size y (.slice (some a) l.length f) l.length (gP l) (h.below ((Below.refl _ _).alloc (Nat.le_refl _) _)) (F4 l) (by unfold maxLen;omega) (by omega);have r:Below w.heap.size w p:=((Below.refl w.heap.size w).alloc (Nat.le_refl _) _).grown s (by simp) (fun k t=>by injection t with t;omega);have C:=Lib.hid x;have B:=Lib.hid u;have A:=Lib.hid r;clear x u r s j y h;have G:=fun (w:World) (a:Option Addr) (n c o d:Nat)=>Lib.run_eql_slice_nil (P:=Tryz.prog) w 28 _ a n c o d Tryz.underlying28;go_enter Tryz.func73,Tryz.ntmps73
  go_wp2_with (first
   | (at_builtin;refine bH rfl _ _ 28 rfl _ _ (.slice (some ⟨g,0,none⟩) l.length D) p rfl rfl C.out ?_)
   | fail)
  go_ret;exact ⟨_,_,rfl,B.out,A.out⟩
theorem Hx {w:World} {k:Nat} {o:Obj} (h:w.heap[k]? =some o):k < w.heap.size:=(Array.getElem?_eq_some_iff.1 h).1
theorem ez {w a:World} (b:Below w.heap.size w a) {k:Nat} {o:Obj} (h:w.heap[k]? =some o):a.heap[k]? =some o:=(b.block k (Hx h)).trans h
theorem kT {p:Nat} {w b:World} (c:aH p w b) {k:Nat} {o:Obj} (h:w.heap[k]? =some o) (a:k≠p):b.heap[k]? =some o:=(c.2 k a).trans h
theorem xf {w j:World} {a i n:Nat} {e:TypeId} {v:Value} {k:List Value} (h:w.ownsRow a e i v n k) (p:∀g b,w.heap[g]? =some (.cells b e (0,0))→a≤g→j.heap[g]? =some (.cells b e (0,0))):j.ownsRow a e i v n k:=by
 obtain ⟨o,d⟩:=h;refine ⟨o,?_⟩
 rcases d with d | ⟨g,c,b,l,f,m,r⟩
 ·exact .inl d
 ·exact .inr ⟨g,c,b,l,f,p g b m f,r⟩
theorem rA {w:World} {a f i n:Nat} {e:TypeId} {v:Value} {j:List Value} (h:w.ownsRow a e i v n j) (o:f≤a):w.ownsRow f e i v n j:=by
 obtain ⟨m,d⟩:=h;refine ⟨m,?_⟩
 rcases d with d | ⟨g,b,c,k,l,r⟩
 ·exact .inl d
 ·exact .inr ⟨g,b,c,k,Nat.le_trans o l,r⟩
theorem Ij {w:World} {a n f:Nat} {e:TypeId} {v:Value} {i:List Value} (h:w.ownsRow a e f v n i):aZ w v n f i:=by
 refine ⟨h.1,?_⟩
 rcases h.2 with ⟨b,m⟩ | ⟨g,k,l,b,_,o,c,_,_,d⟩
 ·exact .inl ⟨m,none,0,b⟩
 ·refine .inr ⟨g,0,k,b,c,fun j p=>?_⟩;rw [Nat.zero_add,Lib.cell_of_heap o,←Array.getElem?_toList,←List.getElem?_take_of_lt p,d]
structure EL (c:bT):Prop where
 host:c.host.size≤255
 doms:c.doms.length≤5
 domz:∀s∈c.doms,s.size≤255
 nets:c.nets.length≤5
 users:c.users.length≤5
 userz:∀x∈c.users,x.1.size≤255∧x.2.size≤255
 waits:c.waits.length≤5
theorem sy {s:ByteArray} (h:iK s.data.toList=true):s.size≤255:=by
 unfold iK at h;simp only [Bool.and_eq_true,decide_eq_true_eq,Array.length_toList] at h;have:s.size=s.data.size:=rfl;omega
theorem qK {s:ByteArray} (h:lP s.data.toList=true):s.size≤255:=by
 unfold lP cd at h;simp only [Bool.and_eq_true,decide_eq_true_eq,Array.length_toList] at h;have:s.size=s.data.size:=rfl;omega
theorem jQ {c:bT} (h:iL c=true):EL c:=by
 unfold iL ny mw j7 j9 at h;simp only [Bool.and_eq_true,decide_eq_true_eq,List.all_eq_true] at h;obtain ⟨⟨⟨⟨⟨⟨⟨⟨d,e,f⟩,g,_⟩,i,j⟩,_⟩,_⟩,a,_⟩,_⟩,_⟩:=h;refine ⟨sy d,e,fun s l=>sy (f s l),g,i,fun x m=>?_,?_⟩
 ·obtain ⟨k,b,rfl⟩:=List.getElem_of_mem m;have:=j k (List.mem_range.2 b);unfold lD at this;simp only [Bool.and_eq_true,List.getD_eq_getElem?_getD,List.getElem?_eq_getElem b,Option.getD_some] at this;exact ⟨qK this.1.1,qK this.1.2⟩
 ·unfold cd at a;simp only [Bool.and_eq_true,decide_eq_true_eq] at a;omega
theorem j6 {W:World} {a n l:Nat} {e:TypeId} {v:Value} {m:List Value} (h:W.ownsRow a e l v n m) {k:Nat} (b:v.ownBlock=some k):a≤k∧k < W.heap.size:=by
 rcases h.2 with ⟨c,_⟩ | ⟨g,d,f,c,i,j,_⟩
 ·rw [c] at b;cases b
 ·rw [c] at b;injection b with b;subst b;exact ⟨i,(Array.getElem?_eq_some_iff.1 j).1⟩
theorem p8 {W:World} {g a:Nat} {A:Array Value} {t:TypeId} {v:Value} (h:W.heap[g]? =some (.cells A t (0,0))) (d:A[a]? =some v):Below W.heap.size W (W.setCell ⟨g,a,none⟩ v):=by
 have b:aH g W (W.setCell ⟨g,a,none⟩ v):=(aH.refl _ _).setCell _;have f:=heap_setCell_same W g a _ _ v h
 have e:A.setIfInBounds a v=A:=by
  apply Array.ext_getElem?;intro i;rw [Array.getElem?_setIfInBounds]
  split
  ·rename_i j
   subst j;rw [d];simp [(Array.getElem?_eq_some_iff.1 d).1]
  ·rfl
 refine ⟨b.3.1,b.3.2.1,b.3.2.2,by rw [b.1];exact Nat.le_refl _,fun k _=>?_⟩
 by_cases c:k=g
 ·subst c;rw [h,f,e]
 ·exact b.2 k c
structure yn (w W:World) (c:bT) (D N U V:Value):Prop where
 box:W.heap[w.heap.size]? =some (.cells #[.string c.host,D,N,U,.int .i64 c.most,.int .i64 c.size,V,.int .i64 c.life,.int .i64 c.room] 30 (0,0))
 out:W.heap[w.heap.size+1]? =some (.cells #[.string ⟨#[]⟩,.slice none 0 0,.slice none 0 0,.slice none 0 0,.int .i64 0,.int .i64 0,.slice none 0 0,.int .i64 0,.int .i64 0] 30 (0,0))
 below:Below w.heap.size w W
theorem yn.keep {w W b:World} {c:bT} {D N U V:Value} (h:yn w W c D N U V) (a:Below W.heap.size W b):yn w b c D N U V:=
 ⟨ez a h.box,ez a h.out,h.below.trans (a.mono h.below.size)⟩
theorem yn.set {w W:World} {c:bT} {D N U V D' N' U' V':Value} (h:yn w W c D N U V) (j:Nat) (v:Value) (e:(#[.string c.host,D,N,U,.int .i64 c.most,.int .i64 c.size,V,.int .i64 c.life,.int .i64 c.room]:Array Value).setIfInBounds j v=#[.string c.host,D',N',U',.int .i64 c.most,.int .i64 c.size,V',.int .i64 c.life,.int .i64 c.room]):yn w (W.setCell ⟨w.heap.size,j,none⟩ v) c D' N' U' V':=by
 have a:aH w.heap.size W (W.setCell ⟨w.heap.size,j,none⟩ v):=(aH.refl _ _).setCell _;refine ⟨?_,kT a h.out (by omega),h.below.trans (a.below (Nat.le_refl _))⟩;have b:=heap_setCell_same W w.heap.size j _ _ v h.box;rw [e] at b;exact b
theorem yn.big {w W:World} {c:bT} {D N U V:Value} (h:yn w W c D N U V):w.heap.size+2≤W.heap.size:=Hx h.out
theorem yn.cell {w W:World} {c:bT} {D N U V:Value} (h:yn w W c D N U V) (j:Nat):W.cell? ⟨w.heap.size,j,none⟩=(#[.string c.host,D,N,U,.int .i64 c.most,.int .i64 c.size,V,.int .i64 c.life,.int .i64 c.room]:Array Value)[j]? :=by rw [Lib.cell_of_heap h.box]
theorem yn.frozen {w W:World} {c:bT} {D N U V:Value} (h:yn w W c D N U V) (j:Nat):W.frozen? ⟨w.heap.size,j,none⟩=false:=Lib.frozen_of_heap h.box j
theorem jn {w W:World} {n a j:Nat} {e:TypeId} {v x:Value} {b:List Value} (h:W.ownsRow (w.heap.size+2) e a v n b):(W.setCell ⟨w.heap.size,j,none⟩ x).ownsRow (w.heap.size+2) e a v n b:=
 xf h fun _ _ e c=>kT ((aH.refl _ _).setCell _) e (by omega)
theorem dK {W b:World} {a n c:Nat} {e:TypeId} {v:Value} {d:List Value} (h:W.ownsRow a e c v n d) (f:Below W.heap.size W b):b.ownsRow a e c v n d:=xf h fun _ _ e _=>ez f e
theorem wZ {w W a:World} {n b:Nat} {e:TypeId} {v:Value} {c:List Value} (h:W.ownsRow (w.heap.size+2) e b v n c) (d:aH (w.heap.size+1) W a):aZ a v n b c:=
 Ij (xf h fun _ _ e f=>kT d e (by omega))
theorem gG {W:World} {b j:Nat} {A A':Array Value} {t:TypeId} {v:Value} (h:W.heap[b]? =some (.cells A t (0,0))) (e:A.setIfInBounds j v=A'):(W.setCell ⟨b,j,none⟩ v).heap[b]? =some (.cells A' t (0,0)):=by
 rw [←e];exact heap_setCell_same W b j _ _ v h
theorem Ii {w W a:World} {c:bT} {D N U V:Value} (h:yn w W c D N U V)
  (b:(((((((((W.setCell ⟨w.heap.size+1,0,none⟩ (.string c.host)).setCell ⟨w.heap.size+1,1,none⟩ D).setCell ⟨w.heap.size+1,2,none⟩ N).setCell ⟨w.heap.size+1,3,none⟩ U).setCell ⟨w.heap.size+1,4,none⟩ (.int .i64 c.most)).setCell ⟨w.heap.size+1,5,none⟩ (.int .i64 c.size)).setCell ⟨w.heap.size+1,6,none⟩ V).setCell ⟨w.heap.size+1,7,none⟩ (.int .i64 c.life)).setCell ⟨w.heap.size+1,8,none⟩ (.int .i64 c.room))=a):
  (∀j:Nat,a.cell? ⟨w.heap.size+1,j,none⟩=(#[.string c.host,D,N,U,.int .i64 c.most,.int .i64 c.size,V,.int .i64 c.life,.int .i64 c.room]:Array Value)[j]?)∧aH (w.heap.size+1) W a:=by
 have d:aH (w.heap.size+1) W a:=by rw [←b];exact (((((((((aH.refl _ _).setCell _).setCell _).setCell _).setCell _).setCell _).setCell _).setCell _).setCell _).setCell _
 refine ⟨fun j=>?_,d⟩
 have e:a.heap[w.heap.size+1]? =some (.cells #[.string c.host,D,N,U,.int .i64 c.most,.int .i64 c.size,V,.int .i64 c.life,.int .i64 c.room] 30 (0,0)):=by
  rw [←b];have f:=gG (j:=0) (v:= .string c.host) h.out (A':=#[.string c.host,.slice none 0 0,.slice none 0 0,.slice none 0 0,.int .i64 0,.int .i64 0,.slice none 0 0,.int .i64 0,.int .i64 0]) rfl;have g:=gG (j:=1) (v:=D) f (A':=#[.string c.host,D,.slice none 0 0,.slice none 0 0,.int .i64 0,.int .i64 0,.slice none 0 0,.int .i64 0,.int .i64 0]) rfl;have i:=gG (j:=2) (v:=N) g (A':=#[.string c.host,D,N,.slice none 0 0,.int .i64 0,.int .i64 0,.slice none 0 0,.int .i64 0,.int .i64 0]) rfl;have k:=gG (j:=3) (v:=U) i (A':=#[.string c.host,D,N,U,.int .i64 0,.int .i64 0,.slice none 0 0,.int .i64 0,.int .i64 0]) rfl;have l:=gG (j:=4) (v:= .int .i64 c.most) k (A':=#[.string c.host,D,N,U,.int .i64 c.most,.int .i64 0,.slice none 0 0,.int .i64 0,.int .i64 0]) rfl;have m:=gG (j:=5) (v:= .int .i64 c.size) l (A':=#[.string c.host,D,N,U,.int .i64 c.most,.int .i64 c.size,.slice none 0 0,.int .i64 0,.int .i64 0]) rfl;have n:=gG (j:=6) (v:=V) m (A':=#[.string c.host,D,N,U,.int .i64 c.most,.int .i64 c.size,V,.int .i64 0,.int .i64 0]) rfl;have o:=gG (j:=7) (v:= .int .i64 c.life) n (A':=#[.string c.host,D,N,U,.int .i64 c.most,.int .i64 c.size,V,.int .i64 c.life,.int .i64 0]) rfl;exact gG (j:=8) (v:= .int .i64 c.room) o (A':=#[.string c.host,D,N,U,.int .i64 c.most,.int .i64 c.size,V,.int .i64 c.life,.int .i64 c.room]) rfl
 rw [Lib.cell_of_heap e]
theorem E4 (c:bT) (vD vN vU vW:Value) (w:World) (h:jD w c vD vN vU vW) (hs:EL c):
  Calls Tryz.prog 43 #[.agg #[.string c.host,vD,vN,vU,.int .i64 c.most,.int .i64 c.size,vW,.int .i64 c.life,.int .i64 c.room]] w fun e E=>∃uD uN uU uW,e= .returned (.agg #[.string c.host,uD,uN,uU,.int .i64 c.most,.int .i64 c.size,uW,.int .i64 c.life,.int .i64 c.room])∧jD E c uD uN uU uW∧Below w.heap.size w E∧∀k,(uD.ownBlock=some k∨uN.ownBlock=some k∨uU.ownBlock=some k∨uW.ownBlock=some k)→w.heap.size≤k∧k < E.heap.size:=by
 obtain ⟨aD,cD,n⟩:=aE h.1;obtain ⟨V,X,r⟩:=aE h.2.1;obtain ⟨R,T,o⟩:=aE h.2.2.1;obtain ⟨G,H,I⟩:=aE h.2.2.2;subst n r o I;obtain ⟨W0,b5⟩:∃W0:World,(w.alloc (.cells #[.string c.host,.slice aD c.doms.length cD,.slice V c.nets.length X,.slice R c.users.length T,.int .i64 c.most,.int .i64 c.size,.slice G c.waits.length H,.int .i64 c.life,.int .i64 c.room] 30)).alloc (.cells #[.string ⟨#[]⟩,.slice none 0 0,.slice none 0 0,.slice none 0 0,.int .i64 0,.int .i64 0,.slice none 0 0,.int .i64 0,.int .i64 0] 30)=W0:=⟨_,rfl⟩
 have C0:yn w W0 c (.slice aD c.doms.length cD) (.slice V c.nets.length X) (.slice R c.users.length T) (.slice G c.waits.length H):=by
  rw [←b5];refine ⟨ez ((Below.refl _ _).alloc (Nat.le_refl _) _) (heap_alloc_new w _),?_,((Below.refl _ _).alloc (Nat.le_refl _) _).alloc (by simp) _⟩;have:=heap_alloc_new (w.alloc (.cells #[.string c.host,.slice aD c.doms.length cD,.slice V c.nets.length X,.slice R c.users.length T,.int .i64 c.most,.int .i64 c.size,.slice G c.waits.length H,.int .i64 c.life,.int .i64 c.room] 30)) (.cells #[.string ⟨#[]⟩,.slice none 0 0,.slice none 0 0,.slice none 0 0,.int .i64 0,.int .i64 0,.slice none 0 0,.int .i64 0,.int .i64 0] 30);simpa using this
 have HH:=Lib.hid h;have U:=Lib.hid hs;have c1:=Lib.hid C0;have h1:=Lib.hid b5;have y0:W0.cell? ⟨w.heap.size,0,none⟩=some (.string c.host):=C0.cell 0;clear h hs C0 b5;go_enter Tryz.func43,Tryz.ntmps43;go_wp2_with fail
 rw [h1.out];go_wp2_with fail
 refine (gV c.host W0 (by have:=U.out.host;omega)).mono ?_;rintro e w1 ⟨rfl,d4⟩;have C1:=c1.out.keep d4;have y1:w1.cell? ⟨w.heap.size,1,none⟩=some (.slice aD c.doms.length cD):=C1.cell 1;have z0:w1.cell? ⟨w.heap.size,0,none⟩=some (.string c.host):=C1.cell 0;have f0:=C1.frozen 0;have L:=Lib.hid (C1.set (D':= .slice aD c.doms.length cD) (N':= .slice V c.nets.length X) (U':= .slice R c.users.length T) (V':= .slice G c.waits.length H) 0 (.string c.host) rfl);clear d4 C1 y0 c1;go_wp2_with fail
 obtain ⟨W2,c7⟩:∃W2:World,w1.setCell ⟨w.heap.size,0,none⟩ (.string c.host)=W2:=⟨_,rfl⟩;rw [c7] at L ⊢;clear c7 y1 z0 f0;refine (AL c.doms _ W2 (HH.out.1.below L.out.below) U.out.doms).mono ?_;rintro e w3 ⟨q,n,rfl,d8,d5⟩;have C3:=L.out.keep d5;have y1:w3.cell? ⟨w.heap.size,1,none⟩=some (.slice aD c.doms.length cD):=C3.cell 1;have f1:=C3.frozen 1;have a2:=Lib.hid (C3.set (D':= .slice q c.doms.length n) (N':= .slice V c.nets.length X) (U':= .slice R c.users.length T) (V':= .slice G c.waits.length H) 1 (.slice q c.doms.length n) rfl);have a4:=Lib.hid (jn (w:=w) (j:=1) (x:= .slice q c.doms.length n) (rA d8 L.out.big));clear d5 C3 d8 L;go_wp2_with fail
 obtain ⟨W4,c8⟩:∃W4:World,w3.setCell ⟨w.heap.size,1,none⟩ (.slice q c.doms.length n)=W4:=⟨_,rfl⟩;rw [c8] at a2 a4 ⊢;clear c8 y1 f1;go_loopw [3,4,18] (fun _ _ i E=>∃k:Nat,k≤c.doms.length∧i= .int .i64 k∧Hid (yn w E c (.slice q c.doms.length n) (.slice V c.nets.length X) (.slice R c.users.length T) (.slice G c.waits.length H))∧Hid (E.ownsRow (w.heap.size+2) 9 1 (.slice q c.doms.length n) c.doms.length (dC c.doms))) (fun _ _ i _=>c.doms.length - (intOf i).toNat)
 case atStart=>exact ⟨0,Nat.zero_le _,rfl,a2,a4⟩
 case round=>
  clear a2 a4;obtain ⟨k,hk,rfl,p,P⟩:=hrel;have h6:c.doms.length≤5:=U.out.doms
  by_cases C:k < c.doms.length
  ·have d7:(k:Int) < (c.doms.length:Int):=by omega
   obtain ⟨g,rfl,b,J,y⟩:∃g,q=some ⟨g,0,none⟩∧∃b:Array Value,wr.heap[g]? =some (.cells b 9 (0,0))∧b[k]? =some (.string c.doms[k]):=by
    rcases P.out.2 with ⟨_,h0⟩ | ⟨g,cp,b,e,_,J,_,_,_,a1⟩
    ·omega
    ·injection e with e1 _ _;refine ⟨g,e1,b,J,?_⟩;rw [←Array.getElem?_toList,←List.getElem?_take_of_lt (show k < c.doms.length * 1 by omega),a1];simp [dC,C]
   have D:=U.out.domz c.doms[k] (List.getElem_mem C);obtain ⟨t,et⟩:∃t,c.doms[k]=t:=⟨_,rfl⟩;rw [et] at y D;clear et;have d0:wr.cell? ⟨g,k,none⟩=some (.string t):=by rw [Lib.cell_of_heap J];exact y
   have y1:wr.cell? ⟨w.heap.size,1,none⟩=some (.slice (some ⟨g,0,none⟩) c.doms.length n):=p.out.cell 1;have g4:=Lib.hid (gV t wr.drew (by omega));have c3:=Lib.hid y;have HG:Hid (wr.drew.heap[g]? =some (.cells b 9 (0,0))):=Lib.hid J;have z:Hid (yn w wr.drew c (.slice (some ⟨g,0,none⟩) c.doms.length n) (.slice V c.nets.length X) (.slice R c.users.length T) (.slice G c.waits.length H)):=Lib.hid (p.out.keep ((Below.refl _ _).drew));have a7:Hid (wr.drew.ownsRow (w.heap.size+2) 9 1 (.slice (some ⟨g,0,none⟩) c.doms.length n) c.doms.length (dC c.doms)):=Lib.hid (dK P.out ((Below.refl _ _).drew));have i1:wr.drew.cell? ⟨w.heap.size,1,none⟩=some (.slice (some ⟨g,0,none⟩) c.doms.length n):=z.out.cell 1;clear y J p P D;go_wp2_with fail
   go_region_law (first
    | (go_simp;go_at_call 69;refine g4.out.mono ?_;rintro e d ⟨rfl,a⟩;have f:=z.out.keep a;have O9:=dK a7.out a;have g9:=ez a HG.out;have d9:d.cell? ⟨g,k,none⟩=some (.string t):=(by rw [Lib.cell_of_heap g9];exact c3.out);have f9:=Lib.frozen_of_heap g9 k;have i2:d.cell? ⟨w.heap.size,1,none⟩=some (.slice (some ⟨g,0,none⟩) c.doms.length n):=f.cell 1;have c2:=Lib.hid f;have g6:=Lib.hid O9;have g5:=Lib.hid g9;clear f O9 g9 a;dsimp only))
   all_goals
    go_wp2_with fail
    have f7:=p8 g5.out c3.out;exact ⟨⟨k+1,by omega,by go_num,Lib.hid (c2.out.keep f7),Lib.hid (dK g6.out f7)⟩,by simp [intOf];omega⟩
  ·have b8:k=c.doms.length:=by omega
   subst b8;have y2:wr.cell? ⟨w.heap.size,2,none⟩=some (.slice V c.nets.length X):=p.out.cell 2;go_wp2_with fail
   refine (AM c.nets _ wr (HH.out.2.1.below p.out.below) U.out.nets).mono ?_;rintro e w5 ⟨B,r,rfl,e9,b7⟩;have C5:=p.out.keep b7;have y2:w5.cell? ⟨w.heap.size,2,none⟩=some (.slice V c.nets.length X):=C5.cell 2;have y3:w5.cell? ⟨w.heap.size,3,none⟩=some (.slice R c.users.length T):=C5.cell 3;have f2:=C5.frozen 2;have M:=Lib.hid (C5.set (D':= .slice q c.doms.length n) (N':= .slice B c.nets.length r) (U':= .slice R c.users.length T) (V':= .slice G c.waits.length H) 2 (.slice B c.nets.length r) rfl);have a5:=Lib.hid (jn (w:=w) (j:=2) (x:= .slice B c.nets.length r) (dK P.out b7));have a9:=Lib.hid (jn (w:=w) (j:=2) (x:= .slice B c.nets.length r) (rA e9 p.out.big));clear b7 C5 e9 p P;go_wp2_with fail
   obtain ⟨W6,c9⟩:∃W6:World,w5.setCell ⟨w.heap.size,2,none⟩ (.slice B c.nets.length r)=W6:=⟨_,rfl⟩;rw [c9] at M a5 a9 ⊢;clear c9 y2 y3 f2;refine (AO c.users _ W6 (HH.out.2.2.1.below M.out.below) U.out.users).mono ?_;rintro e w7 ⟨u,o,rfl,f4,a0⟩;have C7:=M.out.keep a0;have y3:w7.cell? ⟨w.heap.size,3,none⟩=some (.slice R c.users.length T):=C7.cell 3;have f3:=C7.frozen 3;have a3:=Lib.hid (C7.set (D':= .slice q c.doms.length n) (N':= .slice B c.nets.length r) (U':= .slice u c.users.length o) (V':= .slice G c.waits.length H) 3 (.slice u c.users.length o) rfl);have a6:=Lib.hid (jn (w:=w) (j:=3) (x:= .slice u c.users.length o) (dK a5.out a0));have b0:=Lib.hid (jn (w:=w) (j:=3) (x:= .slice u c.users.length o) (dK a9.out a0));have b2:=Lib.hid (jn (w:=w) (j:=3) (x:= .slice u c.users.length o) (rA f4 M.out.big));clear a0 C7 f4 M a5 a9;go_wp2_with fail
   obtain ⟨W8,d2⟩:∃W8:World,w7.setCell ⟨w.heap.size,3,none⟩ (.slice u c.users.length o)=W8:=⟨_,rfl⟩;rw [d2] at a3 a6 b0 b2 ⊢;clear d2 y3 f3;go_loopw [5,6,41] (fun _ _ i E=>∃k:Nat,k≤c.users.length∧i= .int .i64 k∧Hid (yn w E c (.slice q c.doms.length n) (.slice B c.nets.length r) (.slice u c.users.length o) (.slice G c.waits.length H))∧Hid (E.ownsRow (w.heap.size+2) 9 1 (.slice q c.doms.length n) c.doms.length (dC c.doms))∧Hid (E.ownsRow (w.heap.size+2) 77 2 (.slice B c.nets.length r) c.nets.length (gR c.nets))∧Hid (E.ownsRow (w.heap.size+2) 79 2 (.slice u c.users.length o) c.users.length (cB c.users))) (fun _ _ i _=>c.users.length - (intOf i).toNat)
   case atStart=>exact ⟨0,Nat.zero_le _,rfl,a3,a6,b0,b2⟩
   case round=>
    clear a3 a6 b0 b2;obtain ⟨k,hk,rfl,p,P,HP,HQ⟩:=hrel;have h7:c.users.length≤5:=U.out.users
    by_cases C:k < c.users.length
    ·have d7:(k:Int) < (c.users.length:Int):=by omega
     obtain ⟨g,rfl,b,J,l,m⟩:∃g,u=some ⟨g,0,none⟩∧∃b:Array Value,wr.heap[g]? =some (.cells b 79 (0,0))∧b[k * 2]? =some (.string c.users[k].1)∧b[k * 2+1]? =some (.string c.users[k].2):=by
      rcases HQ.out.2 with ⟨_,h0⟩ | ⟨g,cp,b,e,_,J,_,_,_,a1⟩
      ·omega
      ·injection e with e1 _ _;refine ⟨g,e1,b,J,?_,?_⟩
       ·rw [←Array.getElem?_toList,←List.getElem?_take_of_lt (show k * 2 < c.users.length * 2 by omega),a1];exact rM _ k C
       ·rw [←Array.getElem?_toList,←List.getElem?_take_of_lt (show k * 2+1 < c.users.length * 2 by omega),a1];exact pE _ k C
     have D:=U.out.userz c.users[k] (List.getElem_mem C);obtain ⟨t,et⟩:∃t,c.users[k]=t:=⟨_,rfl⟩;rw [et] at l m D;obtain ⟨t0,O⟩:=t;simp only at l m D;clear et;have d0:wr.cell? ⟨g,k * 2,none⟩=some (.string t0):=by rw [Lib.cell_of_heap J];exact l
     have d1:wr.cell? ⟨g,k * 2+1,none⟩=some (.string O):=by rw [Lib.cell_of_heap J];exact m
     obtain ⟨s,Z⟩:∃s:World,wr.alloc (.cells #[.string t0,.string O] 79)=s:=⟨_,rfl⟩;have B1:Below wr.heap.size wr s:=by rw [←Z];exact (Below.refl _ _).alloc (Nat.le_refl _) _
     have X1:s.heap[wr.heap.size]? =some (.cells #[.string t0,.string O] 79 (0,0)):=by rw [←Z];exact heap_alloc_new wr _
     have D1:Below wr.heap.size wr s.drew:=B1.drew;have z:=Lib.hid (p.out.keep D1);have a7:=Lib.hid (dK P.out D1);have g7:=Lib.hid (dK HP.out D1);have g8:=Lib.hid (dK HQ.out D1);have HG:Hid (s.drew.heap[g]? =some (.cells b 79 (0,0))):=Lib.hid (ez D1 J);have HX:Hid (s.drew.heap[wr.heap.size]? =some (.cells #[.string t0,.string O] 79 (0,0))):=Lib.hid X1;have y3:s.cell? ⟨w.heap.size,3,none⟩=some (.slice (some ⟨g,0,none⟩) c.users.length o):=(p.out.keep B1).cell 3;have i3:s.drew.cell? ⟨w.heap.size,3,none⟩=some (.slice (some ⟨g,0,none⟩) c.users.length o):=z.out.cell 3;have x0:s.cell? ⟨wr.heap.size,0,none⟩=some (.string t0):=by rw [Lib.cell_of_heap X1];rfl
     have x1:s.cell? ⟨wr.heap.size,1,none⟩=some (.string O):=by rw [Lib.cell_of_heap X1];rfl
     have h8:s.drew.cell? ⟨wr.heap.size,0,none⟩=some (.string t0):=x0;have h9:s.drew.cell? ⟨wr.heap.size,1,none⟩=some (.string O):=x1;have f8:=Lib.hid (gV t0 s.drew (by omega));have g0:Hid (∀W:World,Calls Tryz.prog 69 #[.string O] W fun e E=>e= .returned (.string O)∧Below W.heap.size W E):=Lib.hid (fun W=>gV O W (by omega));have c5:=Lib.hid l;have c6:=Lib.hid m;have h2:=Lib.hid Z;clear l m J p P HP HQ D Z B1 X1 D1;go_wp2_with fail
     rw [h2.out]
     go_region_law (first
      | (go_simp;go_at_call 69;refine f8.out.mono ?_;rintro e d ⟨rfl,a⟩;have f:=z.out.keep a;have X9:=ez a HX.out;have i4:d.cell? ⟨w.heap.size,3,none⟩=some (.slice (some ⟨g,0,none⟩) c.users.length o):=f.cell 3;have i0:d.cell? ⟨wr.heap.size,1,none⟩=some (.string O):=(by rw [Lib.cell_of_heap X9];rfl);have c2:=Lib.hid f;have c0:=Lib.hid a;clear f X9 a;dsimp only)
      | (go_simp;go_at_call 69;refine (g0.out d).mono ?_;rintro e wa ⟨rfl,d6⟩;have K:=Lib.hid (c0.out.trans (d6.mono c0.out.size));have Ca:=z.out.keep K.out;have ga:=ez K.out HG.out;have da:wa.cell? ⟨g,k * 2,none⟩=some (.string t0):=(by rw [Lib.cell_of_heap ga];exact c5.out);have h4:wa.cell? ⟨g,k * 2+1,none⟩=some (.string O):=(by rw [Lib.cell_of_heap ga];exact c6.out);have fa:=Lib.frozen_of_heap ga (k * 2);have h5:=Lib.frozen_of_heap ga (k * 2+1);have i5:wa.cell? ⟨w.heap.size,3,none⟩=some (.slice (some ⟨g,0,none⟩) c.users.length o):=Ca.cell 3;have N:=Lib.hid Ca;have c4:=Lib.hid ga;clear Ca ga d6;dsimp only))
     all_goals
      go_wp2_with fail
      have s1:=p8 c4.out c5.out;have s2:=s1.trans ((p8 (ez s1 c4.out) c6.out).mono s1.size);exact ⟨⟨k+1,by omega,by go_num,Lib.hid (N.out.keep s2),Lib.hid (dK (dK a7.out K.out) s2),Lib.hid (dK (dK g7.out K.out) s2),Lib.hid (dK (dK g8.out K.out) s2)⟩,by simp [intOf];omega⟩
    ·have b8:k=c.users.length:=by omega
     subst b8;have y6:wr.cell? ⟨w.heap.size,6,none⟩=some (.slice G c.waits.length H):=p.out.cell 6;go_wp2_with fail
     refine (AP c.waits _ wr (HH.out.2.2.2.below p.out.below) U.out.waits).mono ?_;rintro e d ⟨S,I,rfl,f5,a⟩;have f:=p.out.keep a;have y6:d.cell? ⟨w.heap.size,6,none⟩=some (.slice G c.waits.length H):=f.cell 6;have f6:=f.frozen 6;have N:=Lib.hid (f.set (D':= .slice q c.doms.length n) (N':= .slice B c.nets.length r) (U':= .slice u c.users.length o) (V':= .slice S c.waits.length I) 6 (.slice S c.waits.length I) rfl);have a8:=Lib.hid (jn (w:=w) (j:=6) (x:= .slice S c.waits.length I) (dK P.out a));have b1:=Lib.hid (jn (w:=w) (j:=6) (x:= .slice S c.waits.length I) (dK HP.out a));have b3:=Lib.hid (jn (w:=w) (j:=6) (x:= .slice S c.waits.length I) (dK HQ.out a));have b4:=Lib.hid (jn (w:=w) (j:=6) (x:= .slice S c.waits.length I) (rA f5 p.out.big));have Y:=fun j=>f.cell j;have k0:d.cell? ⟨w.heap.size,0,none⟩=some (.string c.host):=Y 0;have k1:d.cell? ⟨w.heap.size,1,none⟩=some (.slice q c.doms.length n):=Y 1;have k2:d.cell? ⟨w.heap.size,2,none⟩=some (.slice B c.nets.length r):=Y 2;have k3:d.cell? ⟨w.heap.size,3,none⟩=some (.slice u c.users.length o):=Y 3;have k4:d.cell? ⟨w.heap.size,4,none⟩=some (.int .i64 c.most):=Y 4;have k5:d.cell? ⟨w.heap.size,5,none⟩=some (.int .i64 c.size):=Y 5;have k7:d.cell? ⟨w.heap.size,7,none⟩=some (.int .i64 c.life):=Y 7;have k8:d.cell? ⟨w.heap.size,8,none⟩=some (.int .i64 c.room):=Y 8;have m0:d.cell? ⟨w.heap.size+1,0,none⟩=some (.string ⟨#[]⟩):=by rw [Lib.cell_of_heap f.out];rfl
     have m1:d.cell? ⟨w.heap.size+1,1,none⟩=some (.slice none 0 0):=by rw [Lib.cell_of_heap f.out];rfl
     have m2:d.cell? ⟨w.heap.size+1,2,none⟩=some (.slice none 0 0):=by rw [Lib.cell_of_heap f.out];rfl
     have m3:d.cell? ⟨w.heap.size+1,3,none⟩=some (.slice none 0 0):=by rw [Lib.cell_of_heap f.out];rfl
     have m4:d.cell? ⟨w.heap.size+1,4,none⟩=some (.int .i64 0):=by rw [Lib.cell_of_heap f.out];rfl
     have m5:d.cell? ⟨w.heap.size+1,5,none⟩=some (.int .i64 0):=by rw [Lib.cell_of_heap f.out];rfl
     have m6:d.cell? ⟨w.heap.size+1,6,none⟩=some (.slice none 0 0):=by rw [Lib.cell_of_heap f.out];rfl
     have m7:d.cell? ⟨w.heap.size+1,7,none⟩=some (.int .i64 0):=by rw [Lib.cell_of_heap f.out];rfl
     have m8:d.cell? ⟨w.heap.size+1,8,none⟩=some (.int .i64 0):=by rw [Lib.cell_of_heap f.out];rfl
     have ff:∀j:Nat,d.frozen? ⟨w.heap.size+1,j,none⟩=false:=fun j=>Lib.frozen_of_heap f.out j;clear Y a f f5 p P HP HQ;go_wp2_with fail
     obtain ⟨Wa,d3⟩:∃Wa:World,d.setCell ⟨w.heap.size,6,none⟩ (.slice S c.waits.length I)=Wa:=⟨_,rfl⟩;rw [d3] at N a8 b1 b3 b4 ⊢;obtain ⟨F,b6⟩:∃F:World,(((((((((Wa.setCell ⟨w.heap.size+1,0,none⟩ (.string c.host)).setCell ⟨w.heap.size+1,1,none⟩ (.slice q c.doms.length n)).setCell ⟨w.heap.size+1,2,none⟩ (.slice B c.nets.length r)).setCell ⟨w.heap.size+1,3,none⟩ (.slice u c.users.length o)).setCell ⟨w.heap.size+1,4,none⟩ (.int .i64 c.most)).setCell ⟨w.heap.size+1,5,none⟩ (.int .i64 c.size)).setCell ⟨w.heap.size+1,6,none⟩ (.slice S c.waits.length I)).setCell ⟨w.heap.size+1,7,none⟩ (.int .i64 c.life)).setCell ⟨w.heap.size+1,8,none⟩ (.int .i64 c.room))=F:=⟨_,rfl⟩;rw [b6];obtain ⟨Q,Sf⟩:=Ii N.out b6;have A:=Lib.hid Sf;have e0:F.cell? ⟨w.heap.size+1,0,none⟩=some (.string c.host):=Q 0;have e1:F.cell? ⟨w.heap.size+1,1,none⟩=some (.slice q c.doms.length n):=Q 1;have e2:F.cell? ⟨w.heap.size+1,2,none⟩=some (.slice B c.nets.length r):=Q 2;have e3:F.cell? ⟨w.heap.size+1,3,none⟩=some (.slice u c.users.length o):=Q 3;have e4:F.cell? ⟨w.heap.size+1,4,none⟩=some (.int .i64 c.most):=Q 4;have e5:F.cell? ⟨w.heap.size+1,5,none⟩=some (.int .i64 c.size):=Q 5;have e6:F.cell? ⟨w.heap.size+1,6,none⟩=some (.slice S c.waits.length I):=Q 6;have e7:F.cell? ⟨w.heap.size+1,7,none⟩=some (.int .i64 c.life):=Q 7;have e8:F.cell? ⟨w.heap.size+1,8,none⟩=some (.int .i64 c.room):=Q 8;clear b6 d3 Q Sf;refine bodyPost_ret (v:= .agg #[.string c.host,.slice q c.doms.length n,.slice B c.nets.length r,.slice u c.users.length o,.int .i64 c.most,.int .i64 c.size,.slice S c.waits.length I,.int .i64 c.life,.int .i64 c.room]) (by simp [results,Tryz.results43,go_sem,e0,e1,e2,e3,e4,e5,e6,e7,e8]) rfl ?_
     exact ⟨_,_,_,_,rfl,⟨wZ a8.out A.out,wZ b1.out A.out,wZ b3.out A.out,wZ b4.out A.out⟩,N.out.below.trans (A.out.below (by omega)),fun k e=>by
      have h3:F.heap.size=Wa.heap.size:=A.out.1;rw [h3]
      rcases e with e | e | e | e
      ·have:=j6 a8.out e;omega
      ·have:=j6 b1.out e;omega
      ·have:=j6 b3.out e;omega
      ·have:=j6 b4.out e;omega⟩
def nQ (s:ByteArray):Prop:=∀(j:Nat) (b:UInt8),s.data.toList[j]? =some b→b.toNat < 128
def lH (dom:ByteArray) (d:ByteArray):Bool:=Lib.equalFold d.data.toList dom.data.toList
theorem Dq (d a:ByteArray) (g:Nat) (w:World) (i:w.cell? ⟨g,0,none⟩=some (.string a)) (j:d.size≤255) (c:nQ d) (f:nQ a):
  Calls Tryz.prog 266 #[.string d,.pointer (some ⟨g,0,none⟩)] w fun e b=>e= .returned (.bool (lH a d))∧Below w.heap.size w b:=by
 have h:Hid (∀W:World,Calls Tryz.prog 246 #[.string d,.string a] W fun e b=>e= .returned (.bool (Lib.equalFold d.data.toList a.data.toList))∧b=W):=Lib.hid (fun W=>Tryz.strings_EqualFold d a W (by omega) c f);clear c f;go_enter Tryz.func266,Tryz.ntmps266;go_wp2_with fail
 refine (h.out _).mono ?_;rintro e k ⟨rfl,rfl⟩;go_wp2_with fail
 go_ret;exact ⟨rfl,Below.refl _ _⟩
theorem rU {l:List ByteArray} {p:ByteArray→Bool} {k:Nat} (h:k < l.length) (a:(l.take k).any p=false) (b:p l[k]=false):(l.take (k+1)).any p=false:=by
 rw [List.take_succ_eq_append_getElem h,List.any_append,a];simp [b]
theorem sL (l:List ByteArray) (v:Value) (u:Nat) (a:ByteArray) (w:World) (N:aZ w v l.length 1 (dC l)) (K:w.cell? ⟨u,0,none⟩=some (.string a)) (X:l.length≤5) (O:∀d∈l,d.size≤255∧nQ d) (I:nQ a):
  Calls Tryz.prog 289 #[v,.func (.func 266) #[] #[.pointer (some ⟨u,0,none⟩)]] w fun e E=>∃r:Int,e= .returned (.int .i64 r)∧(-1≤r∧r≤255)∧decide (0≤r)=l.any (lH a)∧Below w.heap.size w E:=by
 obtain ⟨U,V,rfl,h⟩:=N.one;have Q:=Lib.hid h;have F:=Lib.hid K;have R:=Lib.hid O;have P:=Lib.hid I;obtain ⟨s,M⟩:∃s,w.heap.size=s:=⟨_,rfl⟩;have f:=Lib.hid M;clear N M K h O I;go_enter Tryz.func289,Tryz.ntmps289;go_wp2_with fail
 go_loopw [5,8] (fun _ i E=>∃k:Nat,k≤l.length∧i= .int .i64 k∧Hid ((l.take k).any (lH a)=false)∧Hid (Below s w E)) (fun _ i _=>l.length - (intOf i).toNat)
 case atStart=>exact ⟨0,Nat.zero_le _,rfl,Lib.hid rfl,Lib.hid (by rw [←f.out];exact Below.refl _ _)⟩
 case round=>
  obtain ⟨k,W,rfl,y,o⟩:=hrel
  by_cases j:k < l.length
  ·have L:(k:Int) < (l.length:Int):=by omega
   obtain ⟨g,D,rfl,B,A⟩:=Q.out k j;rw [dC,List.getElem?_map,List.getElem?_eq_getElem j] at A;have S:wr.cell? ⟨g,D+k,none⟩=some (.string l[k]):=(o.out.cell (by show g < s;rw [←f.out];exact B)).trans A;have G:wr.cell? ⟨u,0,none⟩=some (.string a):=(o.out.cell (by show u < s;rw [←f.out];exact aA F.out)).trans F.out;have q:Hid (∀b:Bool,lH a l[k]=b→(b=true→l.any (lH a)=true)∧(b=false→(l.take (k+1)).any (lH a)=false)):=Lib.hid (fun b J=>⟨fun e=>List.any_eq_true.2 ⟨_,List.getElem_mem j,by rw [J,e]⟩,fun e=>rU j y.out (by rw [J,e])⟩);have m:=R.out l[k] (List.getElem_mem j);obtain ⟨x,H⟩:∃x,l[k]=x:=⟨_,rfl⟩;rw [H] at S q m;have c:=Lib.hid (Dq x a u wr G m.1 m.2 P.out);have t:s≤wr.heap.size:=by have:=o.out.size;have:=f.out;omega
   clear H A G y m
   cases p:lH a x with
   | true=>
    have z:=Lib.hid ((q.out true p).1 rfl);rw [p] at c;clear q p;go_wp2_with (first | (go_at_call 266;refine c.out.mono ?_;rintro e T ⟨rfl,n⟩) | fail)
    go_ret;exact ⟨_,rfl,by omega,by rw [z.out];simp,by rw [f.out];exact o.out.trans (n.mono t)⟩
   | false=>
    have z:=Lib.hid ((q.out false p).2 rfl);rw [p] at c;clear q p;go_wp2_with (first | (go_at_call 266;refine c.out.mono ?_;rintro e T ⟨rfl,n⟩) | fail)
    exact ⟨⟨k+1,by omega,by go_num,z,Lib.hid (o.out.trans (n.mono t))⟩,by simp [intOf];omega⟩
  ·have C:k=l.length:=by omega
   subst C;rw [List.take_length] at y;go_wp2_with fail
   go_ret;exact ⟨_,rfl,by omega,by rw [y.out];rfl,by rw [f.out];exact o.out⟩
theorem oL (l:List ByteArray) (v:Value) (b:Nat) (a:ByteArray) (w:World) (i:aZ w v l.length 1 (dC l)) (f:w.cell? ⟨b,0,none⟩=some (.string a)) (o:l.length≤5) (j:∀d∈l,d.size≤255∧nQ d) (c:nQ a):
  Calls Tryz.prog 265 #[v,.func (.func 266) #[] #[.pointer (some ⟨b,0,none⟩)]] w fun e k=>e= .returned (.bool (l.any (lH a)))∧Below w.heap.size w k:=by
 have h:=sL l v b a w i f o j c;clear i f j c;go_enter Tryz.func265,Tryz.ntmps265;go_wp2_with fail
 refine h.mono ?_;rintro e k ⟨r,rfl,p,g,n⟩;have m:=Lib.hid g;clear g h;go_wp2_with fail
 go_ret;exact ⟨by rw [←m.out];rfl,n⟩
theorem tT {l:List UInt8} (h:∀(j:Nat) (b:UInt8),l[j]? =some b→b.toNat < 128):∀(j:Nat) (b:UInt8),(Lib.toLowerA l)[j]? =some b→b.toNat < 128:=by
 intro j b c;unfold Lib.toLowerA at c;rw [List.getElem?_map,Option.map_eq_some_iff] at c;obtain ⟨a,e,rfl⟩:=c;have:=h j a e;unfold Lib.lowerB
 split
 ·rename_i d
  unfold Lib.isUpperB at d;simp only [Bool.and_eq_true,decide_eq_true_eq,UInt8.le_iff_toNat_le,UInt8.reduceToNat] at d;rw [UInt8.toNat_add];simp only [UInt8.reduceToNat];omega
 ·exact this
theorem AB {l x y:List UInt8} {f:Bool} (h:eh l=(x,y,f)):∀(j:Nat) (b:UInt8),y[j]? =some b→b.toNat < 128:=by
 unfold eh at h
 split at h
 ·rename_i a
  rw [Bool.and_eq_true] at a;injection h with _ h;injection h with h _;rw [←h];exact tT (pK _ a.2)
 ·injection h with _ h;injection h with h _;rw [←h];intro j b c;simp at c
theorem FL {c:bT} (h:iL c=true):∀d∈c.doms,d.size≤255∧nQ d:=by
 have e:=jQ h;unfold iL ny mw j7 j9 at h;simp only [Bool.and_eq_true,decide_eq_true_eq,List.all_eq_true] at h;obtain ⟨⟨⟨⟨⟨⟨⟨⟨f,g,b⟩,_⟩,_⟩,_⟩,_⟩,_⟩,_⟩,_⟩:=h;exact fun d a=>⟨e.domz d a,pK _ (b d a)⟩
def dY (c:bT) (name:List UInt8):Bool:=(eh name).2.2 && c.doms.any (lH (bs (eh name).2.1))
theorem qV (c:bT) (U V W X:Value) (a:List UInt8) (m:Int) (w:World) (h:jD w c U V W X) (S:iL c=true) (hn:a.length≤1048576) (F:w.cell? ⟨0,0,none⟩=some (.int .i64 m)):
  Calls Tryz.prog 238 #[.agg #[.string c.host,U,V,W,.int .i64 c.most,.int .i64 c.size,X,.int .i64 c.life,.int .i64 c.room],.string (bs a)] w fun e w'=>e= .returned (.bool (dY c a))∧Below w.heap.size w w':=by
 obtain ⟨C,D,Y⟩:=aE h.1;obtain ⟨K,O,Z⟩:=aE h.2.1;obtain ⟨L,P,eU⟩:=aE h.2.2.1;obtain ⟨M,Q,eW⟩:=aE h.2.2.2;subst Y Z eU eW;obtain ⟨n,g⟩:∃n:World,w.alloc (.cells #[.string c.host,.slice C c.doms.length D,.slice K c.nets.length O,.slice L c.users.length P,.int .i64 c.most,.int .i64 c.size,.slice M c.waits.length Q,.int .i64 c.life,.int .i64 c.room] 30)=n:=⟨_,rfl⟩;have t:Below w.heap.size w n:=by rw [←g];exact (Below.refl _ _).alloc (Nat.le_refl _) _
 have I:n.heap[w.heap.size]? =some (.cells #[.string c.host,.slice C c.doms.length D,.slice K c.nets.length O,.slice L c.users.length P,.int .i64 c.most,.int .i64 c.size,.slice M c.waits.length Q,.int .i64 c.life,.int .i64 c.room] 30 (0,0)):=by rw [←g];exact heap_alloc_new w _
 have a0:=aI a;have p:=Lib.hid I;have o:=Lib.hid t;have B:=Lib.hid g;have G:=Lib.hid h.1;have A:=Lib.hid S;have T:n.cell? ⟨0,0,none⟩=some (.int .i64 m):=(t.cell (by exact aA F)).trans F;have H:=Lib.hid (tA (bs a) m n (by omega) T);clear h t I g F S T;go_enter Tryz.func238,Tryz.ntmps238;go_wp2_with fail
 rw [B.out];refine H.out.mono ?_;rintro e l ⟨x,y,f,rfl,R,k⟩;have d:Hid (eh a=(x.data.toList,y.data.toList,f)):=Lib.hid (by rw [←R,aQ]);have b:=Lib.hid ((o.out.trans (k.mono o.out.size)));have q:=Lib.hid (ae k p.out);clear R k p H
 cases f with
 | false=>
  have z:Hid (dY c a=false):=Lib.hid (by unfold dY;rw [d.out];rfl);go_wp2_with fail
  go_ret;exact ⟨by rw [z.out];rfl,b.out.alloc b.out.size _⟩
 | true=>
  have z:Hid (dY c a=c.doms.any (lH y)):=Lib.hid (by unfold dY;rw [d.out];simp only [Bool.true_and];congr 1);obtain ⟨j,r⟩:∃j:World,l.alloc (.cells #[.string y] 9)=j:=⟨_,rfl⟩;have u:Below l.heap.size l j:=by rw [←r];exact (Below.refl _ _).alloc (Nat.le_refl _) _
  have J:j.heap[l.heap.size]? =some (.cells #[.string y] 9 (0,0)):=by rw [←r];exact heap_alloc_new l _
  have N:j.cell? ⟨l.heap.size,0,none⟩=some (.string y):=by rw [Lib.cell_of_heap J];rfl
  have s:=ae u q.out;have y1:j.cell? ⟨w.heap.size,1,none⟩=some (.slice C c.doms.length D):=by rw [Lib.cell_of_heap s];rfl
  have i:=Lib.hid (b.out.trans (u.mono b.out.size));have v:=Lib.hid (oL c.doms _ l.heap.size y j (G.out.below i.out) N (jQ A.out).doms (FL A.out) (AB d.out));clear u J N s G A d q;go_wp2_with (first | (go_at_call 265;refine v.out.mono ?_;rintro e w9 ⟨rfl,E⟩) | fail)
  go_ret;exact ⟨by rw [z.out];rfl,i.out.trans (E.mono i.out.size)⟩
end Go.Proofs.YtofpegbpgkkgkaaGreatDoor
