import Derived.Test.YtponhohdpophlaaGreatDoorS26
import Derived.Test.YtponhohdpophlaaGreatDoorS25
import Derived.Deep.LoopGhost
import Derived.Carry
import Derived.Stop.Joined
import Derived.JoinedCond
import Derived.Deep.DeepHandedRow
namespace Go.Proofs.YtponhohdpophlaaGreatDoor
set_option maxHeartbeats 8000000
set_option maxRecDepth 1000000
open Go.Value renaming int->I,slice->L,bool->YW
open _root_.Option renaming none->N,some->S
open Go.Proofs.Tryz
open Go.RowKit
theorem E5(l:List mA)(W:QK)(q:Nat)(w:QI)(m:Int)(h j:QJ)(A:Act->QI->Prop)(a1:∀(k:Nat) (hk:k < l.length),∃b r,W=S ⟨b,r,N⟩/\∀i,i < 14->w.cell? ⟨b,r+k * 14+i,N⟩=l[k].cells[i]?)(a0:∀o∈l,mA.Ok w o)(hl:l.length<=65536)(hm:w.cell? ⟨0,0,N⟩=S (I .i64 m))(C:∀(a':Act) (Z:QI) (v':QJ),kc l W q w h j l.length v' a'->Below w.heap.size w Z->A a' Z)(wr:QI)(a:Act)(k:Nat)(v:QJ)(y:List (QJ×QJ))(z:kc l W q w h j k v a)(hk:k<=l.length)(a4:y.length<=k)(hS:HQ w wr w.heap.size (k * 2097152) (k * 1048576) v y)(d:Act->QI->Prop)(D:k < l.length->∀(a':Act) (Z:QI) (v':QJ) (a2:List (QJ×QJ)),kc l W q w h j (k+1) v' a'->a2.length<=k+1->HQ w Z w.heap.size ((k+1) * 2097152) ((k+1) * 1048576) v' a2->d a' Z):Code.wp prog (oE Tryz.f6) (Exit.then d (Exit.inBlock 0 (Exit.then A (bodyPost prog Tryz.f6 λe Z=>e=Ending.returned (YW true)/\Below w.heap.size w Z)))) a wr:=by
 by_cases X:k < l.length
 .obtain ⟨b,r,rfl,B⟩:=a1 k X;have hO:=a0 _ (List.getElem_mem X)
  generalize l[k]=o at B hO
  obtain ⟨g,p,n,V,f,c,vD,vN,vU,vW⟩:=o;have x:dD w c vD vN vU vW:=hO.cfg;obtain ⟨E,P,eD⟩:=az x.1;obtain ⟨G,Q,eN⟩:=az x.2.1;obtain ⟨M,R,eU⟩:=az x.2.2.1;obtain ⟨O,U,eW⟩:=az x.2.2.2;subst eD eN eU eW;have s:Am l w wr b r q k v y m h j g p n V f c E G M O P Q R U d:=⟨hS,a4,X,hl,hO,λi u hi e=>(B i hi).trans e,hm,D X⟩
  by_cases hA:7 < g
  .by_cases Y:g=12
   .by_cases t:y.length=0
    .exact Dj l w wr b r q k v y m h j g p n V f c E G M O P Q R U d A _ z s Y t
    exact Dk l w wr b r q k v y m h j g p n V f c E G M O P Q R U d A _ z s Y t
   exact Kz l w wr b r q k v y m h j g p n V f c E G M O P Q R U d A _ z s hA Y
  by_cases h1:g=1
  .exact Ic l w wr b r q k v y m h j g p n V f c E G M O P Q R U d A _ z s h1
  by_cases h2:g=2
  .exact Di l w wr b r q k v y m h j g p n V f c E G M O P Q R U d A _ z s h2
  by_cases t:y.length=0
  .exact Ib l w wr b r q k v y m h j g p n V f c E G M O P Q R U d A _ z s (by omega) h1 h2 t
  by_cases h3:g=3\/g=4
  .exact E4 l w wr b r q k v y m h j g p n V f c E G M O P Q R U d A _ z s h3 t
  by_cases h5:g=5\/g=6\/g=7
  .exact E6 l w wr b r q k v y m h j g p n V f c E G M O P Q R U d A _ z s h5 t
  exact KA l w wr b r q k v y m h j g p n V f c E G M O P Q R U d A _ z s h1 h2 (by omega) t
 have a3:k=l.length:=by omega
 subst a3
 iterate 146 (obtain ⟨_,z⟩:=z)
 obtain ⟨rfl,rfl⟩:=z;have HX:=K C;have HB:=K hS.below;clear C hS D a1 a0 hm;conv=>arg 2;whnf
 go_wp2_with fail
 refine HX.out _ _ v ?_ HB.out;unfold kc
 iterate 146 apply Exists.intro
 exact ⟨rfl,rfl⟩
theorem Ia(l:List mA)(c:QK)(g:Nat)(w:QI)(m:Int)(d f:QJ)(t:Act->QI->Prop)(B:∀(k:Nat) (V:k < l.length),∃b r,c=S ⟨b,r,N⟩/\∀i,i < 14->w.cell? ⟨b,r+k * 14+i,N⟩=l[k].cells[i]?)(A:∀o∈l,mA.Ok w o)(O:l.length<=65536)(Q:w.cell? ⟨0,0,N⟩=S (I .i64 m))(j:∀(p:Act) (h:QI) (q:QJ),kc l c g w d f l.length q p->Below w.heap.size w h->t p h)(a:Act)(wr:QI)(v:QJ)(G:kc l c g w d f 0 v a)(M:HQ w wr w.heap.size 0 0 v []):Code.wp prog (Code.loop (oE Tryz.f6)) (Exit.inBlock 0 (Exit.then t (bodyPost prog Tryz.f6 λe h=>e=Ending.returned (YW true)/\Below w.heap.size w h))) a wr:=by
 refine wp_loop_ghost (λn p h=>∃(k:Nat) (q:QJ) (s:List (QJ×QJ)),n+k=l.length/\s.length<=k/\kc l c g w d f k q p/\HQ w h w.heap.size (k * 2097152) (k * 1048576) q s) l.length ⟨0,v,[],rfl,Nat.le_refl _,G,by simpa using M⟩ ?_
 rintro n p h ⟨k,q,s,W,D,u,y⟩;refine E5 l c g w m d f t B A O Q j h p k q s u (by omega) D y _ ?_;intro P U X R E x C z;exact ⟨n - 1,by omega,k+1,R,E,by omega,C,x,z⟩
theorem Hz(l:List mA)(v:QJ)(m:Int)(w:QI)(h:lD w v l)(E:l.length<=65536)(z:w.cell? ⟨0,0,N⟩=S (I .i64 m))(n:gh w):Calls prog 6 #[v,I .i64 7] w λe A=>e= .returned (YW true)/\Below w.heap.size w A:=by
 obtain ⟨q,r,rfl,o⟩:=DN h;have f:=K o;have d:=K h.2;have x:=K z;obtain ⟨C,a⟩:=QE (w.alloc (.cells #[I .i64 0,I .i64 0,YW false,L N 0 0,L N 0 0,L N 0 0,L N 0 0,L N 0 0,L N 0 0] 47));have t:=QG a;have p:=QH a;have u:Hid (HQ w C w.heap.size 0 0 (L N 0 0) []):=K ⟨λ_ _=>False,λk=>k=w.heap.size,⟨World.ownsRow_nil _ _ _ _,λj b=>by simp at b,λj b=>by simp at b,λi j D=>by simp at D,λj b=>by simp at b,λj b=>by simp at b,(by intro k e;cases e),su.nil p,λk e=>⟨by omega,by have:=aq p;omega⟩,t,n⟩⟩
 have g:=K a;clear h o z a t p;go_enter func6,ntmps6;go_wp2_with fail
 rw [g.out];refine Ia l q r w m (.agg #[I .i64 0,I .i64 0,YW false,L N 0 0,L N 0 0,L N 0 0,L N 0 0,L N 0 0,L N 0 0]) (.pointer (S ⟨w.heap.size,0,N⟩)) _ f.out d.out E x.out ?_ _ _ _ ?_ u.out
 .intro G A M s y;have B:=K y;clear y f d u g x
  rename_i c
  apply c
  iterate 146 (obtain ⟨_,s⟩:=s)
  obtain ⟨rfl,rfl⟩:=s;go_wp2_with fail
  go_ret;exact ⟨rfl,B.out⟩
 unfold kc
 iterate 146 apply Exists.intro
 exact ⟨rfl,rfl⟩
def MB:QF:=[104,101,108,111,32,120,13,10,110,111,111,112,13,10]
def Pw:QF:=[50,53,48,32,109,120,46,111,114,103,13,10,50,53,48,32,111,107,13,10]
theorem FD:lK gP=[50,50,48,32,109,120,46,111,114,103,13,10]:=by kernel_rfl
theorem IG:(dx gP (kV gP 1,⟨[],0⟩,[],[]) MB).2.2.2=Pw:=by kernel_rfl
theorem JW(w:QI)(Z:gh w):Calls prog 5 #[] w λe w'=>e= .returned (YW true)/\Below w.heap.size w w':=by
 have HG:=K Z;have HS:Hid ((⟨#[104,101,108,111,32,120,13,10,110,111,111,112,13,10]⟩:QL)=bs MB):=K rfl;clear Z;go_enter func5,ntmps5;go_wp2_with fail
 refine (Lh _).mono ?_;rintro e w1 ⟨vD,vN,vU,vW,rfl,f,d⟩;have j:=K (Nr gP _ _ _ _ w1 f IH Cf (HG.out.below d));have b:=K d;obtain ⟨aD,cD,eD⟩:=az f.1;obtain ⟨aN,cN,eN⟩:=az f.2.1;obtain ⟨aU,cU,eU⟩:=az f.2.2.1;obtain ⟨aW,cW,eW⟩:=az f.2.2.2;subst eD eN eU eW;clear f d;simp only [bF.val];go_wp2_with fail
 refine j.out.mono ?_;rintro e w2 ⟨E,M,G,D,q,O,rfl,s,W,Y,l⟩;have Q:=b.out.trans (l.mono b.out.size);have X:eh E M G D gP w2 q O ⟨[],0⟩ [] (L N 0 0) []:=⟨s,λn x e=>by simp at e,λn m x y _ e=>by simp at e,Nat.zero_le _,Nat.zero_le _,Nat.zero_le _,Nat.zero_le _⟩
 have p:w.heap.size<=M:=by
  rcases W M s.xI with e | e
  .exact (s.yx e).elim
  have:=b.out.size;omega
 have o:∀k,ie w2 G D q O ⟨[],0⟩ (L N 0 0) [] k->w.heap.size<=k:=λk e=>by
  rcases e with e | e | ⟨n,x,e,_⟩
  .have:=Y k e;have:=b.out.size;omega
  .cases e
  simp at e
 have U:=K (Bz X 1 (by decide) (by decide) (by decide));have g:=K Q;have C:=K p;have h:=K o;clear s W Y l Q X p o j;go_wp2_with fail
 refine U.out.mono ?_;rintro e w3 ⟨rfl,P,sb,V,A,t,u,r⟩;have R:=iW g.out r (λk e=>e.elim (λe=>by rw [e];exact C.out) (h.out k));have c:∀k,ie w3 G D q O ⟨[],0⟩ P ([]++[S ⟨sb,V,A,L N 0 0,kV gP 1⟩]) k->w.heap.size<=k:=λk e=>(u k e).elim (h.out k) (λe=>by have:=g.out.size;omega);have a:=Ck t 0 (x:=⟨sb,V,A,L N 0 0,kV gP 1⟩) rfl Cf MB (by decide);simp only at a;rw [IG] at a;have a:=K a;have v:=K R;have i:=K c;have B:=K FD;clear t u r R c U;rw [B.out];go_wp2_with fail
 rw [HS.out];refine a.out.mono ?_;rintro e w4 ⟨rfl,q',a0,A',a1,t,u,r⟩;have z:=K (iW v.out r i.out);clear t u r a;have t1:((bs [50,50,48,32,109,120,46,111,114,103,13,10]).toList == [50,50,48,32,109,120,46,111,114,103,13,10])=true:=by rw [Lib.toList_data,ao];rfl
 have t2:((bs Pw).toList == [50,53,48,32,109,120,46,111,114,103,13,10,50,53,48,32,111,107,13,10])=true:=by rw [Lib.toList_data,ao];rfl
 go_wp2_with fail
 all_goals go_ret
 all_goals exact ⟨rfl,z.out⟩
theorem lD.below{w b:QI}{v:QJ}{l:List mA}(h:lD w v l)(a:Below w.heap.size w b):lD b v l:=⟨h.1.below a,λo c=>(h.2 o c).below a⟩
theorem LG(l:List mA)(v:QJ)(m:Int)(w:QI)(h:lD w v l)(r:l.length<=65536)(i:w.cell? ⟨0,0,N⟩=S (I .i64 m))(f:gh w):Calls prog 3 #[v] w λe s=>e= .returned (YW true)/\Below w.heap.size w s:=by
 have c:=K (JW w f);have n:=K h;have g:=K i;have j:=K f;obtain ⟨o,p,q⟩:=az h.1;subst q;clear h i f;go_enter func3,ntmps3;go_wp2_with fail
 refine c.out.mono ?_;rintro e t ⟨rfl,a⟩;have k:=K (Hz l _ m t (n.out.below a) r ((a.cell (by exact au g.out)).trans g.out) (j.out.below a));have b:=K a;clear a;go_wp2_with fail
 refine k.out.mono ?_;rintro e u ⟨rfl,d⟩;go_wp2_with fail
 go_ret;exact ⟨rfl,b.out.trans (d.mono b.out.size)⟩
open Go.ChangeShapes Go.WideShapes Go.ChangeAt Go.RowKit
theorem OM:laidOutB prog=true:=by kernel_rfl
theorem GI{a:Type}{enc:TypeId×QJ->a}{C:Checked}{n:Os}{f:FuncId}{m:Func}{s:OpenSpec}{e:List PathCond}{d:Bool}{g:List (String×DataW Unit)}(h:QI)(b:Array QJ)(l:h.os=n)
  (p:(h.forCall (λ_ _=>0) ⟨#[],b,[]⟩).variablesZipB C.prog=true)
  (o:((h.forCall (λ_ _=>0) ⟨#[],b,[]⟩).heap.toList.drop C.prog.globals.size).take ((begin C.prog (λ_ _=>0) default).world.heap.size - C.prog.globals.size)=
   (begin C.prog (λ_ _=>0) default).world.heap.toList.drop C.prog.globals.size)
  (j:Input.okWideB C.prog (h.forCall (λ_ _=>0) ⟨#[],b,[]⟩) f ⟨#[],b,[]⟩=true)
  (k:s.preRow enc C.prog m e d g (h.forCall (λ_ _=>0) ⟨#[],b,[]⟩).memory b):
  ∃(w:QI) (c:Tape) (i:Input),w.os=n/\(w.forCall c i).Shaped C.prog/\i.vars=[]/\Input.okWide C.prog (w.forCall c i) .any w.heap.size f i/\
   s.preRow enc C.prog m e d g (w.forCall c i).memory i.args/\({}:Assume).holds C.prog (lone (Frame.enter C.prog f i.args .normal) [] (w.forCall c i)):=
 ⟨h,λ_ _=>0,⟨#[],b,[]⟩,l,World.shaped_of_ZipB p o,(Input.okWide_of_okWideB (base:=0) j).1,(Input.okWide_of_okWideB j).2,k,by simp [Assume.holds]⟩
theorem GB(d:Os){a:Type}(c:TypeId×QJ->a):∃b,DataW.whole c prog ((World.laidAll prog d Rows.talksUptoRow.laid).forCall (λ_ _=>0) ⟨#[],#[.slice none 0 0],[]⟩).memory Tryz.f3.params.toList Rows.talksSpec.vars false #[Value.slice none 0 0].toList 8=some ([.nil],[],b):=
 ⟨[],by kernel_rfl⟩
theorem uj:(Rows.talksUptoRow.laid.all λx=>x.2.handleName?.isNone)=true:=by kernel_rfl
theorem DW(E:Os)(i:E.Started)(c:Type)(d:TypeId×QJ->c)(b:Stop.Interp):ReturnsInHanded {} Tryz.checked E 3 .any ((Rows.OpenSpec.upto Rows.talksSpec).preRow d prog Tryz.f3 Rows.talksUptoRow.domain false Rows.talksUptoRow.laid)
   (((Rows.OpenSpec.upto Rows.talksSpec).at b).post d prog Tryz.f3 false true false false):=by
 obtain ⟨G,X⟩:=GB E d
 refine returnsInHanded_of_row (C:=Tryz.checked) (s:=Rows.OpenSpec.upto Rows.talksSpec) own i (by kernel_rfl) func3
  (GI (enc:=d) (C:=Tryz.checked) (World.laidAll prog E Rows.talksUptoRow.laid) #[.slice none 0 0] (World.laidAll_os _ _ _) (by kernel_rfl) (by kernel_rfl) (by kernel_rfl)
   (OpenSpec.preRow_of_cond 8 X (by kernel_rfl) (λk Q=>by cases Q;kernel_rfl) (by kernel_rfl)
    (by rw [MakeChecks.laidMetH_plain _ _ _ uj];exact laidMet_laidAll _ (by kernel_rfl) (by kernel_rfl)))) ?_
 intro W w n ds gs D g hW _ u V f A _;rw [MakeChecks.laidMetH_plain _ _ _ uj] at f;have o:∀(j:Nat) t v,Tryz.f3.params[j]? =some t->n[j]? =some v->Value.okWide prog W .any w t v:=g;have r:=hW;obtain ⟨p,q,z,hV,rfl,_,_⟩:=hW;have hA:DataW.TrodAll d prog W 0 (λ_=>true) true Tryz.f3.params.toList n.toList ds p:=z;rw [Tryz.params3] at hA o;obtain ⟨v0,M,rfl,rfl,Z⟩:=trodAll_one hA;obtain ⟨rfl,rfl⟩:=trodVars_none hV;have O:=Z;have U:∀x∈p,x.block < W.heap.size:=λx X=>r.lt x (List.mem_append_left _ X);have R:Rows.uptoSmall c ([M]++[])=true:=u _ rfl
 have Q:Rows.uptoBulk M<=1048576:=by
  have h:Rows.uptoBulkAll ([M]++[])<=1048576:=of_decide_eq_true R;simp only [List.append_nil,Rows.uptoBulkAll] at h;omega
 obtain ⟨a,B,y,rfl⟩:=okWide_slice underlying22 (o 0 22 v0 rfl rfl);obtain ⟨Y,h1⟩:=Z;obtain ⟨v,l,hc,P,hl⟩:=Fz h1 (jB V (j:=0) rfl rfl) Q
 have hv:Value.slice a B y=v:=by
  have e:[Value.slice a B y]=[v]:=hc;exact List.cons.inj e |>.1
 subst hv;obtain ⟨m,hm⟩:=tQ A;have hg:=Kq f A;clear z g;simp only [List.append_nil] at r;refine (LG l _ m W P hl hm hg).mono λe W' ⟨he,hb⟩=>?_;subst he;exact ⟨_,rfl,_,_,_,[],_,[],r,trodAll_mk1 (shut_bool underlying4 _),trodAll_mk1 (Below.trod OM (by kernel_rfl) (of_decide_eq_true (by kernel_rfl)) O hb U),rfl,hb.frame _,λh=>by cases h⟩
theorem Jh:prog.funcNamed Rows.talksUptoRow.func=S 3:=by kernel_rfl
theorem Jg:Tryz.f3.isInstance prog Rows.talksUptoRow.origin Rows.talksUptoRow.targs:=of_decide_eq_true (by kernel_rfl)
theorem Ji:Tryz.f3.isWrapper prog Rows.talksUptoRow.wrapper Rows.talksUptoRow.mainSum:=by
 unfold Func.isWrapper;first | (rw [if_pos (by decide+kernel)];kernel_rfl) | (rw [if_neg (by decide+kernel)];exact ⟨rfl,rfl⟩)
theorem GA:Rows.TalksUptoSaid:=
 OpenClaim.holds_of_cond 3 Tryz.f3 rfl rfl rfl rfl rfl rfl rfl ⟨rfl,rfl,rfl,rfl,rfl⟩ rfl rfl rfl rfl rfl Jh func3 Zn Jg Ji
  (λe c b d _ a=>by rw [OpenClaim.pre_eq_preRow];exact DW e c b d a)
end Go.Proofs.YtponhohdpophlaaGreatDoor
