import Derived.Test.YtofpegbpgkkgkaaGreatDoorS12
import Derived.Orders
import Derived.Maps.RangeRun
namespace Go.Proofs.YtofpegbpgkkgkaaGreatDoor
set_option maxHeartbeats 8000000
set_option maxRecDepth 1000000
def fE.pot (x:fE):Nat:=(stay x.m.tos x.out).length * (if x.m.frm=[] then 1 else 2)
def aa.pot (S:aa):Nat:=(S.items.map fE.pot).sum
theorem tK (f:fE→fE) (g:fE→Nat):∀(l:List fE) (k:Nat) (h:k < l.length),((l.modify k f).map g).sum+g l[k]=(l.map g).sum+g (f l[k])
 | [],_,h=>by simp at h
 | x::l,0,_=>by simp [List.modify];omega
 | x::l,k+1,h=>by
  have:=tK f g l k (by simpa using h);simp only [List.modify_succ_cons,List.map_cons,List.sum_cons,List.getElem_cons_succ];omega
theorem Ge (S:aa) (m:aR):(S.plus m).pot=S.pot+m.tos.length * (if m.frm=[] then 1 else 2):=by
 unfold aa.pot aa.plus;rw [List.map_append,List.sum_append];simp only [List.map_cons,List.map_nil,List.sum_cons,List.sum_nil,Nat.add_zero,fE.pot];rw [mH,List.length_map,List.length_range]
theorem Gq {l:List (Nat×List UInt8)} {a:List Nat} {x:Nat} (d:x∈a) (h:(l.any fun r=>decide (r.1=x))=true):(bG l a).length+1≤l.length:=by
 obtain ⟨r,c,e⟩:=List.any_eq_true.1 h;have e:r.1=x:=by simpa using e
 unfold bG;refine Nat.lt_of_le_of_ne (List.length_filter_le _ _) (fun b=>?_);have:=(List.length_filter_eq_length_iff.1 b) r c;rw [e] at this;simp at this;exact this d
theorem zR {S:aa} {a:Nat} {b:List Nat} (g:1≤b.length) (f:bu S a b=true):(S.outs (a - 1) b).pot+(if (S.mailOf (a - 1)).frm=[] then 1 else 2)≤S.pot:=by
 rw [dv g,Bool.and_eq_true,decide_eq_true_eq] at f;obtain ⟨⟨_,m⟩,k⟩:=f;have c:=bm m
 obtain ⟨x,h⟩:∃x,x∈b:=by
  cases b with
  | nil=>simp at g
  | cons x l=>exact ⟨x,by simp⟩
 have n:=Gq h (List.all_eq_true.1 k x h);have d:=tK (fun x=>⟨x.m,jz x.out b⟩) fE.pot S.items (a - 1) c
 have i:fE.pot ⟨S.items[a - 1].m,jz S.items[a - 1].out b⟩=(bG (S.stayOf (a - 1)) b).length * (if (S.mailOf (a - 1)).frm=[] then 1 else 2):=by
  unfold fE.pot;rw [bR c,gF c];unfold bG;rw [←qI]
 have j:fE.pot S.items[a - 1]=(S.stayOf (a - 1)).length * (if (S.mailOf (a - 1)).frm=[] then 1 else 2):=by
  unfold fE.pot;rw [bR c,gF c]
 rw [i,j] at d;show ((S.items.modify (a - 1) _).map fE.pot).sum+_≤(S.items.map fE.pot).sum
 split at d
 ·rename_i e;rw [if_pos e];omega
 ·rename_i e;rw [if_neg e];omega
theorem Ed {S d:aa} {T b:Nat} {c:List Nat} (j:1≤c.length) (a:S.takesF T b c=some d):d.pot+1≤S.pot∧d.items.length+d.pot≤S.items.length+S.pot∧d.time=T:=by
 unfold aa.takesF at a
 split at a
 ·rename_i g
  rw [Bool.and_eq_true] at g;have f:=zR j g.1;have i:=bF S (b - 1) c;injection a with a;unfold aa.failed at a
  split at a
  ·rename_i e
   rw [if_pos e] at f;subst a;have k:(aa.mk (S.outs (b - 1) c).items T).pot=(S.outs (b - 1) c).pot:=rfl;have l:(aa.mk (S.outs (b - 1) c).items T).items.length=S.items.length:=i;exact ⟨by omega,by omega,rfl⟩
  ·rename_i e
   rw [if_neg e] at f;subst a;refine ⟨?_,?_,rfl⟩
   all_goals
    simp only [aa.pot,List.map_append,List.sum_append,List.map_cons,List.map_nil,List.sum_cons,List.sum_nil,List.length_append,List.length_cons,List.length_nil];have h:fE.pot ⟨⟨(S.outs (b - 1) c).items.length+1,T,[],[(S.mailOf (b - 1)).frm],yK (S.mailOf (b - 1)).tos c⟩,[false]⟩=1:=rfl;rw [h];unfold aa.pot at f;omega
 ·cases a
def yq (S:aa) (recs:List UInt8):Prop:=∃M,M≤1000000∧M≤recs.length∧S.items.length+S.pot≤M∧recs.length+200 * S.pot≤201 * M
theorem yq.items {S:aa} {a:List UInt8} (h:yq S a):S.items.length≤1000000:=by
 obtain ⟨M,b,c,d,e⟩:=h;omega
theorem yq.len {S:aa} {a:List UInt8} (h:yq S a):a.length≤201000000:=by
 obtain ⟨M,b,c,d,e⟩:=h;omega
theorem yq.nil (T:Nat):yq ⟨[],T⟩ []:=⟨0,by omega,by simp,by simp [aa.pot],by simp [aa.pot]⟩
theorem yq.plus {S:aa} {a l:List UInt8} {m:aR} (h:yq S a) (k:m.tos.length≤10) (i:21+m.tos.length≤l.length) (j:a.length+l.length≤1000000):yq (S.plus m) (a++l):=by
 obtain ⟨M,c,d,f,g⟩:=h;have e:=Ge S m;have b:m.tos.length * (if m.frm=[] then 1 else 2)≤m.tos.length * 2:=Nat.mul_le_mul_left _ (by split <;> omega)
 refine ⟨M+l.length,by omega,by rw [List.length_append];omega,by rw [dz];omega,?_⟩
 rw [List.length_append];omega
theorem yq.less {S b:aa} {a l:List UInt8} (h:yq S a) (g:b.pot+1≤S.pot) (i:b.items.length+b.pot≤S.items.length+S.pot) (j:l.length≤200):yq b (a++l):=by
 obtain ⟨M,c,d,e,f⟩:=h;exact ⟨M,c,by rw [List.length_append];omega,by omega,by rw [List.length_append];omega⟩
theorem EA (l:List (List UInt8)):l.length≤(fo l).length:=by
 induction l with
 | nil=>simp
 | cons t l ih=>
  show (t::l).length≤(jy t++fo l).length;rw [List.length_append,wm,List.length_cons];omega
theorem Fk (m:aR):21+m.tos.length≤(fi (dd m)).length:=by
 have:=EA m.tos;unfold fi dd;simp only [List.length_append,List.length_cons,bq,wm];omega
theorem zg {b T:Nat} {a:List Nat} (h:a.length≤100):(fi (71::aY b a)).length≤200∧(fi (70::(aB 4 T++aY b a))).length≤200:=by
 unfold fi aY;simp only [List.length_append,List.length_cons,bq,iI];omega
open Go.RowKit Go.Maps Go.Shelf
open Go.WideElems (Fit rd rg)
def ke:Value→Option (DataW Unit×List MemPlace):=fun _=>some (.lit (.bool true),[])
theorem Fh {P:Program} {k:TypeId} (b:P.underlying k=some (.int .i64)) (q:Nat→Nat) (i:Nat) (c:i < 4294967296):rd P k ke (mO q i)=some (.int .i64 ((i:Int)+1),.lit (.bool true)):=by
 unfold rd mO;rw [keyOf_int_mk b (a:=(i:Int)+1) (WalkArith.wf_i64 (by omega))];rfl
theorem Fi {P:Program} {k:TypeId} (j:P.underlying k=some (.int .i64)) {q:Nat→Nat} {l:List Nat} {c:Nat} (g:∀i∈l,i < c) (h:l.Nodup) (m:c≤1048576) (n:l.length≤c):Fit P k ke (cF q l) c:=by
 refine ⟨by simp [cF];unfold maxLen;omega,(MapKept.stamped_iff _ _).2 ⟨fun x d=>?_,?_,?_⟩,fun x d=>?_⟩
 ·rw [cJ] at d;obtain ⟨i,f,rfl⟩:=List.mem_map.1 d;exact g i f
 ·rw [cJ,List.map_map];have:((fun x:MapEntry=>x.born) ∘ mO q)=id:=rfl;rw [this,List.map_id];exact h
 ·rw [cJ,List.pairwise_map];refine h.imp fun {a b} hne e=>hne ?_;exact CN q e
 ·rw [cJ] at d;obtain ⟨i,f,rfl⟩:=List.mem_map.1 d;exact ⟨_,Fh j q i (by have:=g i f;omega)⟩
def ie (l:List Nat):List Int:=l.map fun (i:Nat)=>(i:Int)+1
theorem Ds {P:Program} {k:TypeId} (c:P.underlying k=some (.int .i64)) {q:Nat→Nat} {l:List Nat} (d:∀i∈l,i < 4294967296):(intKeys (DataW.map (((cF q l).toList.map (rg P k ke)).foldr DataW.insert []))).Perm (ie l):=by
 have a:(cF q l).toList.map (rg P k ke)=l.map fun (i:Nat)=>(Lit.int .i64 ((i:Int)+1),(.lit (.bool true):DataW Unit)):=by
  rw [cJ,List.map_map];exact List.map_congr_left fun i b=>by show rg P k ke (mO q i)=_;unfold rg;rw [Fh c q i (d i b)];rfl
 rw [a];show ((List.foldr DataW.insert [] _).map fun p=>Go.intOf p.1).Perm _;refine ((WideShapes.sorted_perm _).map _).trans ?_;rw [List.map_map];exact List.Perm.refl _
theorem zv {l:List Nat} (e:l.Pairwise (·< ·)) {c:List Int} (h:c.Perm (ie l)):c.mergeSort (fun x y=>decide (x≤y))=ie l:=by
 have d:c.mergeSort leI=(ie l).mergeSort leI:=mergeSort_of_perm_i h;refine d.trans (List.mergeSort_of_pairwise ?_);unfold ie;rw [List.pairwise_map];exact e.imp fun {a b} hab=>by simp only [leI,decide_eq_true_eq];omega
theorem nB (S:aa):S.live.Pairwise (·< ·):=(List.pairwise_lt_range).filter _
theorem s9 (S:aa):S.live.length≤S.items.length:=by
 unfold aa.live;have:=List.length_filter_le (fun i=> !(S.stayOf i).isEmpty) (List.range S.items.length)
 rwa [List.length_range] at this
theorem Es (m:Nat):AnyZI.SortsIn Tryz.prog Tryz.sortedA_ren Fence.wide m:=
 ⟨fun c e a g W f b d=>callsIn_wide.2 (AnyM.slices_Sort_int Tryz.sortA c e a g W f b d),
 fun p a W=>callsIn_wide.2 (AnyM.slices_Sort_int_none Tryz.sortA p a W)⟩
theorem zu (a:Option Nat) (W:World):Calls Tryz.prog 59 #[.map a] W fun e b=>e= .returned (.func (.func 95) #[] #[.pointer (some ⟨W.heap.size,0,none⟩)])∧b=W.alloc (.cells #[.map a] 115):=
 (callsIn_wide (n:=5)).1 (AnyZI.keys_in Tryz.keysA Fence.wide 5 trivial rfl a W)
theorem mF (w:World) (d c:Nat) (q:Nat→Nat) (l:List Nat) (h:fP w d q l c) (x:∀i∈l,i < c) (z:l.Pairwise (·< ·)) (C:c≤1048576) (A:l.length≤c):
  Calls Tryz.prog 58 #[.func (.func 95) #[] #[.pointer (some ⟨w.heap.size,0,none⟩)]] (w.alloc (.cells #[.map (some d)] 115)) fun e r=>∃v,e= .returned v∧r.ownsRow (w.heap.size+1) 3 1 v l.length ((ie l).map fun (i:Int)=> .int .i64 i)∧Below (w.heap.size+1) (w.alloc (.cells #[.map (some d)] 115)) r:=by
 have E:l.Nodup:=z.imp fun {a b} hab=>by omega
 have p:d < w.heap.size:=ah h
 have j:(w.alloc (.cells #[.map (some d)] 115)).ownsMap Tryz.prog 3 ke d c (.map (((cF q l).toList.map (WideElems.rg Tryz.prog 3 ke)).foldr DataW.insert [])):=
  ⟨cF q l,c,(Below.heap_alloc _ _ d p).trans h,Fi Tryz.underlying3 x E C A,by simp [cF];exact A,rfl⟩
 have o:Maps.size (DataW.map (((cF q l).toList.map (WideElems.rg Tryz.prog 3 ke)).foldr DataW.insert []))=l.length:=by
  show (List.foldr DataW.insert [] _).length=_;rw [length_sorted,List.length_map,cJ,List.length_map]
 have m:=AnyZI.keys_gives (ρ:=Tryz.keysA_ren) {Tryz.keysA with} Fence.wide 2 trivial rfl (by omega) w.heap.size d c _ (w.alloc (.cells #[.map (some d)] 115)) (by simp) (by simp) j;have s:=AnyZI.sorted_in Tryz.sortedA Fence.wide 5 trivial trivial trivial trivial rfl (by omega) (Es _) (enters_of Tryz.func94 (by kernel_rfl) rfl) 95 #[.pointer (some ⟨w.heap.size,0,none⟩)] trivial (enters_of Tryz.func95 (by kernel_rfl) rfl) _ _ (by rw [o];unfold maxLen;omega) (by rw [o];omega) _ m;change CallsIn _ _ Tryz.prog 58 _ _ _ at s;refine ((callsIn_wide (n:=5)).1 s).mono ?_;rintro e r ⟨v,F,rfl,B,f,y,u⟩;have k:=B.trans (Ds (q:=q) Tryz.underlying3 (fun i D=>by have:=x i D;omega));have g:F.length=l.length:=by rw [k.length_eq];simp [ie]
 have t:(w.alloc (.cells #[.map (some d)] 115)).heap.size=w.heap.size+1:=by simp
 rw [t,g,zv z k] at f;rw [t] at u;exact ⟨v,rfl,f,u⟩
open Go.Conc Go.RowKit
theorem Cl {P:Program} {d:Bool} {c:Array Oper} {b:Frame} {a:Act} {k:List Item} {e:List Frame} {w:World} {f:Nat}:
  stepG P d (G (b.at a (.code (.region f c true)::k)) e) w= .go (G (b.at a (.inRegion c (Region.schedule (P.follows .mixedOrders) c (w.tape w.drawn (.order b.fn f)))::k)) e) w.drew:=by
 simp [G,stepG,stepG.exec,Frame.at,choose,Sem.run,Question.forced,Question.cut]
def cM (P:Program) (Q:Goroutine→World→Prop) (b:Frame) (k:List Item) (cs:List Frame) (ops:Array Oper):Nat→Array Bool→Act→World→Prop
 | 0,listed,a,w=>Region.ready .any ops listed=[]∧LoneTo P Q (G (b.at a (.inRegion ops []::k)) cs) w
 | fuel+1,listed,a,w=>
  (Region.ready .any ops listed=[]→LoneTo P Q (G (b.at a (.inRegion ops []::k)) cs) w)∧
  ∀i∈Region.ready .any ops listed,∀rest,(∀a' w',cM P Q b k cs ops fuel (listed.setIfInBounds i true) a' w'→LoneTo P Q (G (b.at a' (.inRegion ops rest::k)) cs) w')→LoneTo P Q (G (b.at a (.inRegion ops (i::rest)::k)) cs) w
theorem zA {P:Program} {Q:Goroutine→World→Prop} {b:Frame} {k:List Item} {g:List Frame} {d:Array Oper}:∀(e t:Nat) (c:Array Bool) (a:Act) (w:World),cM P Q b k g d e c a w→
  LoneTo P Q (G (b.at a (.inRegion d (Region.linearise.go .any d e t c [])::k)) g) w:=by
 intro e
 induction e with
 | zero=>intro t c a w h;simpa [Region.linearise.go] using h.2
 | succ e ih=>
  intro t c a w h;obtain ⟨p,q⟩:=h;simp only [Region.linearise.go]
  change LoneTo P Q (G (b.at a (.inRegion d (match (Region.ready .any d c)[t % (Region.ready .any d c).length]? with
   | some i=>Region.linearise.go .any d e (t / (Region.ready .any d c).length) (c.setIfInBounds i true) [i]
   | none=>[].reverse)::k)) g) w
  cases j:(Region.ready .any d c)[t % (Region.ready .any d c).length]? with
  | none=>
   have f:Region.ready .any d c=[]:=by
    cases o:Region.ready .any d c with
    | nil=>rfl
    | cons x xs=>
     rw [o] at j;have l:t % (x::xs).length < (x::xs).length:=Nat.mod_lt _ (by simp);simp at j;simp at l;omega
   simpa using p f
  | some i=>
   simp only [];rw [linearise_go_acc,List.reverse_singleton,List.singleton_append];exact q i (List.mem_of_getElem? j) _ (fun m r n=>ih _ _ m r n)
theorem lJ {P:Program} {Q:Goroutine→World→Prop} {b:Frame} {k:List Item} {d:List Frame} {c:Array Oper} {f:Nat} {a:Act} {w:World} (e:P.follows .mixedOrders=true)
  (h:cM P Q b k d c c.size (Array.replicate c.size false) a w.drew):LoneTo P Q (G (b.at a (.code (.region f c true)::k)) d) w:=by
 refine LoneTo.step (step_solo_go rfl Cl) ?_;simp only [Region.schedule,e,Bool.true_or,if_true];exact zA c.size _ _ a _ h
def aM:Option Code→Code
 | some (.seq _ (.block _ (.loop c)))=>c
 | _=> .skip
def bz:Code→Array Oper
 | .seq _ (.seq _ (.seq (.block _ (.seq _ (.region _ ops _))) _))=>ops
 | _=>#[]
theorem ze (Q:Goroutine→World→Prop) (k:List Item) (p:List Frame) (d H o F s r id:Nat) (E:Array Value) (P:Int) (w:World) (hc:w.cell? ⟨d,9,none⟩=some (.chan (some H))) (hP:w.cell? ⟨o,0,none⟩=some (.int .i64 P)) (a0:w.heap[H]? =some (.chan F E false s r false)) (J:E.size < F) (q t u y z A B C g j u12 u13 u14 u15 u16 u17 u18 m:Value)
  (hk:LoneTo Tryz.prog Q (G ((base 129).at ⟨#[(.pointer (some ⟨d,0,none⟩)),q,t,u,y,(.pointer (some ⟨o,0,none⟩)),z,A,B,C,g,j,(.pointer (some ⟨d,0,none⟩)),(.pointer (some ⟨d,0,none⟩)),(.pointer (some ⟨d,9,none⟩)),(.chan (some H)),(.pointer (some ⟨o,0,none⟩)),(.int .i64 P),(.agg #[.int .i64 P,.bool false]),m],[]⟩ k) p) (w.drew.setChan H F (E.push (.agg #[.int .i64 P,.bool false])) false (s+1) r false)):
  LoneTo Tryz.prog Q (G ((base 129).at ⟨#[(.pointer (some ⟨d,0,none⟩)),q,t,u,y,(.pointer (some ⟨o,0,none⟩)),z,A,B,C,g,j,u12,u13,u14,u15,u16,u17,u18,m],[]⟩ (.code (.region id (bz (aM Tryz.f129.body)) true)::k)) p) w:=by
 refine lJ (by kernel_rfl) ?_;have b1:w.drew.cell? ⟨d,9,none⟩=some (.chan (some H)):=hc;have b0:w.drew.cell? ⟨o,0,none⟩=some (.int .i64 P):=hP;have I:w.drew.heap[H]? =some (.chan F E false s r false):=a0;obtain ⟨W,hW⟩:∃W,w.drew=W:=⟨_,rfl⟩;rw [hW] at b1 b0 I hk;show cM _ _ _ _ _ _ 8 #[false,false,false,false,false,false,false,false] _ w.drew;rw [hW];clear hc hP a0 hW;obtain ⟨f,D⟩:∃f,bz (aM Tryz.f129.body)=f:=⟨_,rfl⟩;have R:∀l x,Region.ready .any (bz (aM Tryz.f129.body)) l=x→Region.ready .any f l=x:=fun l x h=>by rw [←D];exact h
 have a9:cM Tryz.prog Q (base 129) k p f 0 #[true,true,true,true,true,true,true,true] ⟨#[(.pointer (some ⟨d,0,none⟩)),q,t,u,y,(.pointer (some ⟨o,0,none⟩)),z,A,B,C,g,j,(.pointer (some ⟨d,0,none⟩)),(.pointer (some ⟨d,0,none⟩)),(.pointer (some ⟨d,9,none⟩)),(.chan (some H)),(.pointer (some ⟨o,0,none⟩)),(.int .i64 P),(.agg #[.int .i64 P,.bool false]),m],[]⟩ (W.setChan H F (E.push (.agg #[.int .i64 P,.bool false])) false (s+1) r false):=
  ⟨R _ _ (by kernel_rfl),LoneTo.goes (n:=1) (by s_c stepG_region_end;s_stop;exact hk)⟩
 have Z:cM Tryz.prog Q (base 129) k p f 1 #[true,true,true,true,true,true,true,false] ⟨#[(.pointer (some ⟨d,0,none⟩)),q,t,u,y,(.pointer (some ⟨o,0,none⟩)),z,A,B,C,g,j,(.pointer (some ⟨d,0,none⟩)),(.pointer (some ⟨d,0,none⟩)),(.pointer (some ⟨d,9,none⟩)),(.chan (some H)),(.pointer (some ⟨o,0,none⟩)),(.int .i64 P),(.agg #[.int .i64 P,.bool false]),m],[]⟩ W:=by
  refine ⟨fun h=>(by rw [R _ [7] (by kernel_rfl)] at h;cases h),fun i b e a=>?_⟩;rw [R _ [7] (by kernel_rfl),List.mem_singleton] at b;subst b;subst D;simp only [bz,aM,Tryz.f129] at a ⊢;refine LoneTo.step (step_lone_send_room (c:=H) (cap:=F) (buf:=E) (s:=s) (r:=r) (tm:=false) (v:= .agg #[.int .i64 P,.bool false]) (stepG_comm (cases:=#[scase H (.agg #[.int .i64 P,.bool false]) (.tuple #[])]) (blocking:=true) (shape:= .send) (w':=W) rfl rfl (by decide) (by simp [execOp,scase,Act.eval])) I J) ?_;rw [Frame.finish_at];exact a _ _ a9
 have V:cM Tryz.prog Q (base 129) k p f 2 #[true,true,true,false,true,true,true,false] ⟨#[(.pointer (some ⟨d,0,none⟩)),q,t,u,y,(.pointer (some ⟨o,0,none⟩)),z,A,B,C,g,j,(.pointer (some ⟨d,0,none⟩)),(.pointer (some ⟨d,0,none⟩)),(.pointer (some ⟨d,9,none⟩)),u15,(.pointer (some ⟨o,0,none⟩)),(.int .i64 P),(.agg #[.int .i64 P,.bool false]),m],[]⟩ W:=by
  refine ⟨fun h=>(by rw [R _ [3] (by kernel_rfl)] at h;cases h),fun i b e a=>?_⟩;rw [R _ [3] (by kernel_rfl)] at b;subst D;simp only [bz,aM,Tryz.f129] at a ⊢;rw [List.mem_singleton] at b;subst b;exact LoneTo.goes (n:=1) (by s_op;s_stop;exact a _ _ Z)
 have Y:cM Tryz.prog Q (base 129) k p f 2 #[true,true,true,true,true,true,false,false] ⟨#[(.pointer (some ⟨d,0,none⟩)),q,t,u,y,(.pointer (some ⟨o,0,none⟩)),z,A,B,C,g,j,(.pointer (some ⟨d,0,none⟩)),(.pointer (some ⟨d,0,none⟩)),(.pointer (some ⟨d,9,none⟩)),(.chan (some H)),(.pointer (some ⟨o,0,none⟩)),(.int .i64 P),u18,m],[]⟩ W:=by
  refine ⟨fun h=>(by rw [R _ [6] (by kernel_rfl)] at h;cases h),fun i b e a=>?_⟩;rw [R _ [6] (by kernel_rfl)] at b;subst D;simp only [bz,aM,Tryz.f129] at a ⊢;rw [List.mem_singleton] at b;subst b;exact LoneTo.goes (n:=1) (by s_op;s_stop;exact a _ _ Z)
 have S:cM Tryz.prog Q (base 129) k p f 3 #[true,true,false,false,true,true,true,false] ⟨#[(.pointer (some ⟨d,0,none⟩)),q,t,u,y,(.pointer (some ⟨o,0,none⟩)),z,A,B,C,g,j,(.pointer (some ⟨d,0,none⟩)),(.pointer (some ⟨d,0,none⟩)),u14,u15,(.pointer (some ⟨o,0,none⟩)),(.int .i64 P),(.agg #[.int .i64 P,.bool false]),m],[]⟩ W:=by
  refine ⟨fun h=>(by rw [R _ [2] (by kernel_rfl)] at h;cases h),fun i b e a=>?_⟩;rw [R _ [2] (by kernel_rfl)] at b;subst D;simp only [bz,aM,Tryz.f129] at a ⊢;rw [List.mem_singleton] at b;subst b;exact LoneTo.goes (n:=1) (by s_op;s_stop;exact a _ _ V)
 have U:cM Tryz.prog Q (base 129) k p f 3 #[true,true,true,false,true,true,false,false] ⟨#[(.pointer (some ⟨d,0,none⟩)),q,t,u,y,(.pointer (some ⟨o,0,none⟩)),z,A,B,C,g,j,(.pointer (some ⟨d,0,none⟩)),(.pointer (some ⟨d,0,none⟩)),(.pointer (some ⟨d,9,none⟩)),u15,(.pointer (some ⟨o,0,none⟩)),(.int .i64 P),u18,m],[]⟩ W:=by
  refine ⟨fun h=>(by rw [R _ [3,6] (by kernel_rfl)] at h;cases h),fun i b e a=>?_⟩;rw [R _ [3,6] (by kernel_rfl)] at b;subst D;simp only [bz,aM,Tryz.f129] at a ⊢;simp only [List.mem_cons,List.not_mem_nil,or_false] at b
  rcases b with rfl | rfl
  ·exact LoneTo.goes (n:=1) (by s_op;s_stop;exact a _ _ Y)
  ·exact LoneTo.goes (n:=1) (by s_op;s_stop;exact a _ _ V)
 have X:cM Tryz.prog Q (base 129) k p f 3 #[true,true,true,true,true,false,false,false] ⟨#[(.pointer (some ⟨d,0,none⟩)),q,t,u,y,(.pointer (some ⟨o,0,none⟩)),z,A,B,C,g,j,(.pointer (some ⟨d,0,none⟩)),(.pointer (some ⟨d,0,none⟩)),(.pointer (some ⟨d,9,none⟩)),(.chan (some H)),(.pointer (some ⟨o,0,none⟩)),u17,u18,m],[]⟩ W:=by
  refine ⟨fun h=>(by rw [R _ [5] (by kernel_rfl)] at h;cases h),fun i b e a=>?_⟩;rw [R _ [5] (by kernel_rfl)] at b;subst D;simp only [bz,aM,Tryz.f129] at a ⊢;rw [List.mem_singleton] at b;subst b;exact LoneTo.goes (n:=1) (by s_op;s_stop;exact a _ _ Y)
 have M:cM Tryz.prog Q (base 129) k p f 4 #[true,false,false,false,true,true,true,false] ⟨#[(.pointer (some ⟨d,0,none⟩)),q,t,u,y,(.pointer (some ⟨o,0,none⟩)),z,A,B,C,g,j,(.pointer (some ⟨d,0,none⟩)),u13,u14,u15,(.pointer (some ⟨o,0,none⟩)),(.int .i64 P),(.agg #[.int .i64 P,.bool false]),m],[]⟩ W:=by
  refine ⟨fun h=>(by rw [R _ [1] (by kernel_rfl)] at h;cases h),fun i b e a=>?_⟩;rw [R _ [1] (by kernel_rfl)] at b;subst D;simp only [bz,aM,Tryz.f129] at a ⊢;rw [List.mem_singleton] at b;subst b;exact LoneTo.goes (n:=1) (by s_op;s_stop;exact a _ _ S)
 have O:cM Tryz.prog Q (base 129) k p f 4 #[true,true,false,false,true,true,false,false] ⟨#[(.pointer (some ⟨d,0,none⟩)),q,t,u,y,(.pointer (some ⟨o,0,none⟩)),z,A,B,C,g,j,(.pointer (some ⟨d,0,none⟩)),(.pointer (some ⟨d,0,none⟩)),u14,u15,(.pointer (some ⟨o,0,none⟩)),(.int .i64 P),u18,m],[]⟩ W:=by
  refine ⟨fun h=>(by rw [R _ [2,6] (by kernel_rfl)] at h;cases h),fun i b e a=>?_⟩;rw [R _ [2,6] (by kernel_rfl)] at b;subst D;simp only [bz,aM,Tryz.f129] at a ⊢;simp only [List.mem_cons,List.not_mem_nil,or_false] at b
  rcases b with rfl | rfl
  ·exact LoneTo.goes (n:=1) (by s_op;s_stop;exact a _ _ U)
  ·exact LoneTo.goes (n:=1) (by s_op;s_stop;exact a _ _ S)
 have T:cM Tryz.prog Q (base 129) k p f 4 #[true,true,true,false,true,false,false,false] ⟨#[(.pointer (some ⟨d,0,none⟩)),q,t,u,y,(.pointer (some ⟨o,0,none⟩)),z,A,B,C,g,j,(.pointer (some ⟨d,0,none⟩)),(.pointer (some ⟨d,0,none⟩)),(.pointer (some ⟨d,9,none⟩)),u15,(.pointer (some ⟨o,0,none⟩)),u17,u18,m],[]⟩ W:=by
  refine ⟨fun h=>(by rw [R _ [3,5] (by kernel_rfl)] at h;cases h),fun i b e a=>?_⟩;rw [R _ [3,5] (by kernel_rfl)] at b;subst D;simp only [bz,aM,Tryz.f129] at a ⊢;simp only [List.mem_cons,List.not_mem_nil,or_false] at b
  rcases b with rfl | rfl
  ·exact LoneTo.goes (n:=1) (by s_op;s_stop;exact a _ _ X)
  ·exact LoneTo.goes (n:=1) (by s_op;s_stop;exact a _ _ U)
 have a8:cM Tryz.prog Q (base 129) k p f 4 #[true,true,true,true,false,false,false,false] ⟨#[(.pointer (some ⟨d,0,none⟩)),q,t,u,y,(.pointer (some ⟨o,0,none⟩)),z,A,B,C,g,j,(.pointer (some ⟨d,0,none⟩)),(.pointer (some ⟨d,0,none⟩)),(.pointer (some ⟨d,9,none⟩)),(.chan (some H)),u16,u17,u18,m],[]⟩ W:=by
  refine ⟨fun h=>(by rw [R _ [4] (by kernel_rfl)] at h;cases h),fun i b e a=>?_⟩;rw [R _ [4] (by kernel_rfl)] at b;subst D;simp only [bz,aM,Tryz.f129] at a ⊢;rw [List.mem_singleton] at b;subst b;exact LoneTo.goes (n:=1) (by s_op;s_stop;exact a _ _ X)
 have a4:cM Tryz.prog Q (base 129) k p f 5 #[false,false,false,false,true,true,true,false] ⟨#[(.pointer (some ⟨d,0,none⟩)),q,t,u,y,(.pointer (some ⟨o,0,none⟩)),z,A,B,C,g,j,u12,u13,u14,u15,(.pointer (some ⟨o,0,none⟩)),(.int .i64 P),(.agg #[.int .i64 P,.bool false]),m],[]⟩ W:=by
  refine ⟨fun h=>(by rw [R _ [0] (by kernel_rfl)] at h;cases h),fun i b e a=>?_⟩;rw [R _ [0] (by kernel_rfl)] at b;subst D;simp only [bz,aM,Tryz.f129] at a ⊢;rw [List.mem_singleton] at b;subst b;exact LoneTo.goes (n:=1) (by s_op;s_stop;exact a _ _ M)
 have L:cM Tryz.prog Q (base 129) k p f 5 #[true,false,false,false,true,true,false,false] ⟨#[(.pointer (some ⟨d,0,none⟩)),q,t,u,y,(.pointer (some ⟨o,0,none⟩)),z,A,B,C,g,j,(.pointer (some ⟨d,0,none⟩)),u13,u14,u15,(.pointer (some ⟨o,0,none⟩)),(.int .i64 P),u18,m],[]⟩ W:=by
  refine ⟨fun h=>(by rw [R _ [1,6] (by kernel_rfl)] at h;cases h),fun i b e a=>?_⟩;rw [R _ [1,6] (by kernel_rfl)] at b;subst D;simp only [bz,aM,Tryz.f129] at a ⊢;simp only [List.mem_cons,List.not_mem_nil,or_false] at b
  rcases b with rfl | rfl
  ·exact LoneTo.goes (n:=1) (by s_op;s_stop;exact a _ _ O)
  ·exact LoneTo.goes (n:=1) (by s_op;s_stop;exact a _ _ M)
 have N:cM Tryz.prog Q (base 129) k p f 5 #[true,true,false,false,true,false,false,false] ⟨#[(.pointer (some ⟨d,0,none⟩)),q,t,u,y,(.pointer (some ⟨o,0,none⟩)),z,A,B,C,g,j,(.pointer (some ⟨d,0,none⟩)),(.pointer (some ⟨d,0,none⟩)),u14,u15,(.pointer (some ⟨o,0,none⟩)),u17,u18,m],[]⟩ W:=by
  refine ⟨fun h=>(by rw [R _ [2,5] (by kernel_rfl)] at h;cases h),fun i b e a=>?_⟩;rw [R _ [2,5] (by kernel_rfl)] at b;subst D;simp only [bz,aM,Tryz.f129] at a ⊢;simp only [List.mem_cons,List.not_mem_nil,or_false] at b
  rcases b with rfl | rfl
  ·exact LoneTo.goes (n:=1) (by s_op;s_stop;exact a _ _ T)
  ·exact LoneTo.goes (n:=1) (by s_op;s_stop;exact a _ _ O)
 have a7:cM Tryz.prog Q (base 129) k p f 5 #[true,true,true,false,false,false,false,false] ⟨#[(.pointer (some ⟨d,0,none⟩)),q,t,u,y,(.pointer (some ⟨o,0,none⟩)),z,A,B,C,g,j,(.pointer (some ⟨d,0,none⟩)),(.pointer (some ⟨d,0,none⟩)),(.pointer (some ⟨d,9,none⟩)),u15,u16,u17,u18,m],[]⟩ W:=by
  refine ⟨fun h=>(by rw [R _ [3,4] (by kernel_rfl)] at h;cases h),fun i b e a=>?_⟩;rw [R _ [3,4] (by kernel_rfl)] at b;subst D;simp only [bz,aM,Tryz.f129] at a ⊢;simp only [List.mem_cons,List.not_mem_nil,or_false] at b
  rcases b with rfl | rfl
  ·exact LoneTo.goes (n:=1) (by s_op;s_stop;exact a _ _ a8)
  ·exact LoneTo.goes (n:=1) (by s_op;s_stop;exact a _ _ T)
 have a3:cM Tryz.prog Q (base 129) k p f 6 #[false,false,false,false,true,true,false,false] ⟨#[(.pointer (some ⟨d,0,none⟩)),q,t,u,y,(.pointer (some ⟨o,0,none⟩)),z,A,B,C,g,j,u12,u13,u14,u15,(.pointer (some ⟨o,0,none⟩)),(.int .i64 P),u18,m],[]⟩ W:=by
  refine ⟨fun h=>(by rw [R _ [0,6] (by kernel_rfl)] at h;cases h),fun i b e a=>?_⟩;rw [R _ [0,6] (by kernel_rfl)] at b;subst D;simp only [bz,aM,Tryz.f129] at a ⊢;simp only [List.mem_cons,List.not_mem_nil,or_false] at b
  rcases b with rfl | rfl
  ·exact LoneTo.goes (n:=1) (by s_op;s_stop;exact a _ _ L)
  ·exact LoneTo.goes (n:=1) (by s_op;s_stop;exact a _ _ a4)
 have K:cM Tryz.prog Q (base 129) k p f 6 #[true,false,false,false,true,false,false,false] ⟨#[(.pointer (some ⟨d,0,none⟩)),q,t,u,y,(.pointer (some ⟨o,0,none⟩)),z,A,B,C,g,j,(.pointer (some ⟨d,0,none⟩)),u13,u14,u15,(.pointer (some ⟨o,0,none⟩)),u17,u18,m],[]⟩ W:=by
  refine ⟨fun h=>(by rw [R _ [1,5] (by kernel_rfl)] at h;cases h),fun i b e a=>?_⟩;rw [R _ [1,5] (by kernel_rfl)] at b;subst D;simp only [bz,aM,Tryz.f129] at a ⊢;simp only [List.mem_cons,List.not_mem_nil,or_false] at b
  rcases b with rfl | rfl
  ·exact LoneTo.goes (n:=1) (by s_op;s_stop;exact a _ _ N)
  ·exact LoneTo.goes (n:=1) (by s_op;s_stop;exact a _ _ L)
 have a6:cM Tryz.prog Q (base 129) k p f 6 #[true,true,false,false,false,false,false,false] ⟨#[(.pointer (some ⟨d,0,none⟩)),q,t,u,y,(.pointer (some ⟨o,0,none⟩)),z,A,B,C,g,j,(.pointer (some ⟨d,0,none⟩)),(.pointer (some ⟨d,0,none⟩)),u14,u15,u16,u17,u18,m],[]⟩ W:=by
  refine ⟨fun h=>(by rw [R _ [2,4] (by kernel_rfl)] at h;cases h),fun i b e a=>?_⟩;rw [R _ [2,4] (by kernel_rfl)] at b;subst D;simp only [bz,aM,Tryz.f129] at a ⊢;simp only [List.mem_cons,List.not_mem_nil,or_false] at b
  rcases b with rfl | rfl
  ·exact LoneTo.goes (n:=1) (by s_op;s_stop;exact a _ _ a7)
  ·exact LoneTo.goes (n:=1) (by s_op;s_stop;exact a _ _ N)
 have a2:cM Tryz.prog Q (base 129) k p f 7 #[false,false,false,false,true,false,false,false] ⟨#[(.pointer (some ⟨d,0,none⟩)),q,t,u,y,(.pointer (some ⟨o,0,none⟩)),z,A,B,C,g,j,u12,u13,u14,u15,(.pointer (some ⟨o,0,none⟩)),u17,u18,m],[]⟩ W:=by
  refine ⟨fun h=>(by rw [R _ [0,5] (by kernel_rfl)] at h;cases h),fun i b e a=>?_⟩;rw [R _ [0,5] (by kernel_rfl)] at b;subst D;simp only [bz,aM,Tryz.f129] at a ⊢;simp only [List.mem_cons,List.not_mem_nil,or_false] at b
  rcases b with rfl | rfl
  ·exact LoneTo.goes (n:=1) (by s_op;s_stop;exact a _ _ K)
  ·exact LoneTo.goes (n:=1) (by s_op;s_stop;exact a _ _ a3)
 have a5:cM Tryz.prog Q (base 129) k p f 7 #[true,false,false,false,false,false,false,false] ⟨#[(.pointer (some ⟨d,0,none⟩)),q,t,u,y,(.pointer (some ⟨o,0,none⟩)),z,A,B,C,g,j,(.pointer (some ⟨d,0,none⟩)),u13,u14,u15,u16,u17,u18,m],[]⟩ W:=by
  refine ⟨fun h=>(by rw [R _ [1,4] (by kernel_rfl)] at h;cases h),fun i b e a=>?_⟩;rw [R _ [1,4] (by kernel_rfl)] at b;subst D;simp only [bz,aM,Tryz.f129] at a ⊢;simp only [List.mem_cons,List.not_mem_nil,or_false] at b
  rcases b with rfl | rfl
  ·exact LoneTo.goes (n:=1) (by s_op;s_stop;exact a _ _ a6)
  ·exact LoneTo.goes (n:=1) (by s_op;s_stop;exact a _ _ K)
 have a1:cM Tryz.prog Q (base 129) k p f 8 #[false,false,false,false,false,false,false,false] ⟨#[(.pointer (some ⟨d,0,none⟩)),q,t,u,y,(.pointer (some ⟨o,0,none⟩)),z,A,B,C,g,j,u12,u13,u14,u15,u16,u17,u18,m],[]⟩ W:=by
  refine ⟨fun h=>(by rw [R _ [0,4] (by kernel_rfl)] at h;cases h),fun i b e a=>?_⟩;rw [R _ [0,4] (by kernel_rfl)] at b;subst D;simp only [bz,aM,Tryz.f129] at a ⊢;simp only [List.mem_cons,List.not_mem_nil,or_false] at b
  rcases b with rfl | rfl
  ·exact LoneTo.goes (n:=1) (by s_op;s_stop;exact a _ _ a5)
  ·exact LoneTo.goes (n:=1) (by s_op;s_stop;exact a _ _ a2)
 subst D;exact a1
theorem Dx (Q:Goroutine→World→Prop) (k:List Item) (p:List Frame) (d H o F s r id:Nat) (E:Array Value) (P:Int) (w:World) (hc:w.cell? ⟨d,9,none⟩=some (.chan (some H))) (hP:w.cell? ⟨o,0,none⟩=some (.int .i64 P)) (a0:w.heap[H]? =some (.chan F E false s r false)) (J:E.size < F) (q t u y z A B C g j u12 u13 u14 u15 u16 u17 u18 m:Value)
  (hk:LoneTo Tryz.prog Q (G ((base 131).at ⟨#[(.pointer (some ⟨d,0,none⟩)),q,t,u,y,(.pointer (some ⟨o,0,none⟩)),z,A,B,C,g,j,(.pointer (some ⟨d,0,none⟩)),(.pointer (some ⟨d,0,none⟩)),(.pointer (some ⟨d,9,none⟩)),(.chan (some H)),(.pointer (some ⟨o,0,none⟩)),(.int .i64 P),(.agg #[.int .i64 P,.bool true]),m],[]⟩ k) p) (w.drew.setChan H F (E.push (.agg #[.int .i64 P,.bool true])) false (s+1) r false)):
  LoneTo Tryz.prog Q (G ((base 131).at ⟨#[(.pointer (some ⟨d,0,none⟩)),q,t,u,y,(.pointer (some ⟨o,0,none⟩)),z,A,B,C,g,j,u12,u13,u14,u15,u16,u17,u18,m],[]⟩ (.code (.region id (bz (aM Tryz.f131.body)) true)::k)) p) w:=by
 refine lJ (by kernel_rfl) ?_;have b1:w.drew.cell? ⟨d,9,none⟩=some (.chan (some H)):=hc;have b0:w.drew.cell? ⟨o,0,none⟩=some (.int .i64 P):=hP;have I:w.drew.heap[H]? =some (.chan F E false s r false):=a0;obtain ⟨W,hW⟩:∃W,w.drew=W:=⟨_,rfl⟩;rw [hW] at b1 b0 I hk;show cM _ _ _ _ _ _ 8 #[false,false,false,false,false,false,false,false] _ w.drew;rw [hW];clear hc hP a0 hW;obtain ⟨f,D⟩:∃f,bz (aM Tryz.f131.body)=f:=⟨_,rfl⟩;have R:∀l x,Region.ready .any (bz (aM Tryz.f131.body)) l=x→Region.ready .any f l=x:=fun l x h=>by rw [←D];exact h
 have a9:cM Tryz.prog Q (base 131) k p f 0 #[true,true,true,true,true,true,true,true] ⟨#[(.pointer (some ⟨d,0,none⟩)),q,t,u,y,(.pointer (some ⟨o,0,none⟩)),z,A,B,C,g,j,(.pointer (some ⟨d,0,none⟩)),(.pointer (some ⟨d,0,none⟩)),(.pointer (some ⟨d,9,none⟩)),(.chan (some H)),(.pointer (some ⟨o,0,none⟩)),(.int .i64 P),(.agg #[.int .i64 P,.bool true]),m],[]⟩ (W.setChan H F (E.push (.agg #[.int .i64 P,.bool true])) false (s+1) r false):=
  ⟨R _ _ (by kernel_rfl),LoneTo.goes (n:=1) (by s_c stepG_region_end;s_stop;exact hk)⟩
 have Z:cM Tryz.prog Q (base 131) k p f 1 #[true,true,true,true,true,true,true,false] ⟨#[(.pointer (some ⟨d,0,none⟩)),q,t,u,y,(.pointer (some ⟨o,0,none⟩)),z,A,B,C,g,j,(.pointer (some ⟨d,0,none⟩)),(.pointer (some ⟨d,0,none⟩)),(.pointer (some ⟨d,9,none⟩)),(.chan (some H)),(.pointer (some ⟨o,0,none⟩)),(.int .i64 P),(.agg #[.int .i64 P,.bool true]),m],[]⟩ W:=by
  refine ⟨fun h=>(by rw [R _ [7] (by kernel_rfl)] at h;cases h),fun i b e a=>?_⟩;rw [R _ [7] (by kernel_rfl),List.mem_singleton] at b;subst b;subst D;simp only [bz,aM,Tryz.f131] at a ⊢;refine LoneTo.step (step_lone_send_room (c:=H) (cap:=F) (buf:=E) (s:=s) (r:=r) (tm:=false) (v:= .agg #[.int .i64 P,.bool true]) (stepG_comm (cases:=#[scase H (.agg #[.int .i64 P,.bool true]) (.tuple #[])]) (blocking:=true) (shape:= .send) (w':=W) rfl rfl (by decide) (by simp [execOp,scase,Act.eval])) I J) ?_;rw [Frame.finish_at];exact a _ _ a9
 have V:cM Tryz.prog Q (base 131) k p f 2 #[true,true,true,false,true,true,true,false] ⟨#[(.pointer (some ⟨d,0,none⟩)),q,t,u,y,(.pointer (some ⟨o,0,none⟩)),z,A,B,C,g,j,(.pointer (some ⟨d,0,none⟩)),(.pointer (some ⟨d,0,none⟩)),(.pointer (some ⟨d,9,none⟩)),u15,(.pointer (some ⟨o,0,none⟩)),(.int .i64 P),(.agg #[.int .i64 P,.bool true]),m],[]⟩ W:=by
  refine ⟨fun h=>(by rw [R _ [3] (by kernel_rfl)] at h;cases h),fun i b e a=>?_⟩;rw [R _ [3] (by kernel_rfl)] at b;subst D;simp only [bz,aM,Tryz.f131] at a ⊢;rw [List.mem_singleton] at b;subst b;exact LoneTo.goes (n:=1) (by s_op;s_stop;exact a _ _ Z)
 have Y:cM Tryz.prog Q (base 131) k p f 2 #[true,true,true,true,true,true,false,false] ⟨#[(.pointer (some ⟨d,0,none⟩)),q,t,u,y,(.pointer (some ⟨o,0,none⟩)),z,A,B,C,g,j,(.pointer (some ⟨d,0,none⟩)),(.pointer (some ⟨d,0,none⟩)),(.pointer (some ⟨d,9,none⟩)),(.chan (some H)),(.pointer (some ⟨o,0,none⟩)),(.int .i64 P),u18,m],[]⟩ W:=by
  refine ⟨fun h=>(by rw [R _ [6] (by kernel_rfl)] at h;cases h),fun i b e a=>?_⟩;rw [R _ [6] (by kernel_rfl)] at b;subst D;simp only [bz,aM,Tryz.f131] at a ⊢;rw [List.mem_singleton] at b;subst b;exact LoneTo.goes (n:=1) (by s_op;s_stop;exact a _ _ Z)
 have S:cM Tryz.prog Q (base 131) k p f 3 #[true,true,false,false,true,true,true,false] ⟨#[(.pointer (some ⟨d,0,none⟩)),q,t,u,y,(.pointer (some ⟨o,0,none⟩)),z,A,B,C,g,j,(.pointer (some ⟨d,0,none⟩)),(.pointer (some ⟨d,0,none⟩)),u14,u15,(.pointer (some ⟨o,0,none⟩)),(.int .i64 P),(.agg #[.int .i64 P,.bool true]),m],[]⟩ W:=by
  refine ⟨fun h=>(by rw [R _ [2] (by kernel_rfl)] at h;cases h),fun i b e a=>?_⟩;rw [R _ [2] (by kernel_rfl)] at b;subst D;simp only [bz,aM,Tryz.f131] at a ⊢;rw [List.mem_singleton] at b;subst b;exact LoneTo.goes (n:=1) (by s_op;s_stop;exact a _ _ V)
 have U:cM Tryz.prog Q (base 131) k p f 3 #[true,true,true,false,true,true,false,false] ⟨#[(.pointer (some ⟨d,0,none⟩)),q,t,u,y,(.pointer (some ⟨o,0,none⟩)),z,A,B,C,g,j,(.pointer (some ⟨d,0,none⟩)),(.pointer (some ⟨d,0,none⟩)),(.pointer (some ⟨d,9,none⟩)),u15,(.pointer (some ⟨o,0,none⟩)),(.int .i64 P),u18,m],[]⟩ W:=by
  refine ⟨fun h=>(by rw [R _ [3,6] (by kernel_rfl)] at h;cases h),fun i b e a=>?_⟩;rw [R _ [3,6] (by kernel_rfl)] at b;subst D;simp only [bz,aM,Tryz.f131] at a ⊢;simp only [List.mem_cons,List.not_mem_nil,or_false] at b
  rcases b with rfl | rfl
  ·exact LoneTo.goes (n:=1) (by s_op;s_stop;exact a _ _ Y)
  ·exact LoneTo.goes (n:=1) (by s_op;s_stop;exact a _ _ V)
 have X:cM Tryz.prog Q (base 131) k p f 3 #[true,true,true,true,true,false,false,false] ⟨#[(.pointer (some ⟨d,0,none⟩)),q,t,u,y,(.pointer (some ⟨o,0,none⟩)),z,A,B,C,g,j,(.pointer (some ⟨d,0,none⟩)),(.pointer (some ⟨d,0,none⟩)),(.pointer (some ⟨d,9,none⟩)),(.chan (some H)),(.pointer (some ⟨o,0,none⟩)),u17,u18,m],[]⟩ W:=by
  refine ⟨fun h=>(by rw [R _ [5] (by kernel_rfl)] at h;cases h),fun i b e a=>?_⟩;rw [R _ [5] (by kernel_rfl)] at b;subst D;simp only [bz,aM,Tryz.f131] at a ⊢;rw [List.mem_singleton] at b;subst b;exact LoneTo.goes (n:=1) (by s_op;s_stop;exact a _ _ Y)
 have M:cM Tryz.prog Q (base 131) k p f 4 #[true,false,false,false,true,true,true,false] ⟨#[(.pointer (some ⟨d,0,none⟩)),q,t,u,y,(.pointer (some ⟨o,0,none⟩)),z,A,B,C,g,j,(.pointer (some ⟨d,0,none⟩)),u13,u14,u15,(.pointer (some ⟨o,0,none⟩)),(.int .i64 P),(.agg #[.int .i64 P,.bool true]),m],[]⟩ W:=by
  refine ⟨fun h=>(by rw [R _ [1] (by kernel_rfl)] at h;cases h),fun i b e a=>?_⟩;rw [R _ [1] (by kernel_rfl)] at b;subst D;simp only [bz,aM,Tryz.f131] at a ⊢;rw [List.mem_singleton] at b;subst b;exact LoneTo.goes (n:=1) (by s_op;s_stop;exact a _ _ S)
 have O:cM Tryz.prog Q (base 131) k p f 4 #[true,true,false,false,true,true,false,false] ⟨#[(.pointer (some ⟨d,0,none⟩)),q,t,u,y,(.pointer (some ⟨o,0,none⟩)),z,A,B,C,g,j,(.pointer (some ⟨d,0,none⟩)),(.pointer (some ⟨d,0,none⟩)),u14,u15,(.pointer (some ⟨o,0,none⟩)),(.int .i64 P),u18,m],[]⟩ W:=by
  refine ⟨fun h=>(by rw [R _ [2,6] (by kernel_rfl)] at h;cases h),fun i b e a=>?_⟩;rw [R _ [2,6] (by kernel_rfl)] at b;subst D;simp only [bz,aM,Tryz.f131] at a ⊢;simp only [List.mem_cons,List.not_mem_nil,or_false] at b
  rcases b with rfl | rfl
  ·exact LoneTo.goes (n:=1) (by s_op;s_stop;exact a _ _ U)
  ·exact LoneTo.goes (n:=1) (by s_op;s_stop;exact a _ _ S)
 have T:cM Tryz.prog Q (base 131) k p f 4 #[true,true,true,false,true,false,false,false] ⟨#[(.pointer (some ⟨d,0,none⟩)),q,t,u,y,(.pointer (some ⟨o,0,none⟩)),z,A,B,C,g,j,(.pointer (some ⟨d,0,none⟩)),(.pointer (some ⟨d,0,none⟩)),(.pointer (some ⟨d,9,none⟩)),u15,(.pointer (some ⟨o,0,none⟩)),u17,u18,m],[]⟩ W:=by
  refine ⟨fun h=>(by rw [R _ [3,5] (by kernel_rfl)] at h;cases h),fun i b e a=>?_⟩;rw [R _ [3,5] (by kernel_rfl)] at b;subst D;simp only [bz,aM,Tryz.f131] at a ⊢;simp only [List.mem_cons,List.not_mem_nil,or_false] at b
  rcases b with rfl | rfl
  ·exact LoneTo.goes (n:=1) (by s_op;s_stop;exact a _ _ X)
  ·exact LoneTo.goes (n:=1) (by s_op;s_stop;exact a _ _ U)
 have a8:cM Tryz.prog Q (base 131) k p f 4 #[true,true,true,true,false,false,false,false] ⟨#[(.pointer (some ⟨d,0,none⟩)),q,t,u,y,(.pointer (some ⟨o,0,none⟩)),z,A,B,C,g,j,(.pointer (some ⟨d,0,none⟩)),(.pointer (some ⟨d,0,none⟩)),(.pointer (some ⟨d,9,none⟩)),(.chan (some H)),u16,u17,u18,m],[]⟩ W:=by
  refine ⟨fun h=>(by rw [R _ [4] (by kernel_rfl)] at h;cases h),fun i b e a=>?_⟩;rw [R _ [4] (by kernel_rfl)] at b;subst D;simp only [bz,aM,Tryz.f131] at a ⊢;rw [List.mem_singleton] at b;subst b;exact LoneTo.goes (n:=1) (by s_op;s_stop;exact a _ _ X)
 have a4:cM Tryz.prog Q (base 131) k p f 5 #[false,false,false,false,true,true,true,false] ⟨#[(.pointer (some ⟨d,0,none⟩)),q,t,u,y,(.pointer (some ⟨o,0,none⟩)),z,A,B,C,g,j,u12,u13,u14,u15,(.pointer (some ⟨o,0,none⟩)),(.int .i64 P),(.agg #[.int .i64 P,.bool true]),m],[]⟩ W:=by
  refine ⟨fun h=>(by rw [R _ [0] (by kernel_rfl)] at h;cases h),fun i b e a=>?_⟩;rw [R _ [0] (by kernel_rfl)] at b;subst D;simp only [bz,aM,Tryz.f131] at a ⊢;rw [List.mem_singleton] at b;subst b;exact LoneTo.goes (n:=1) (by s_op;s_stop;exact a _ _ M)
 have L:cM Tryz.prog Q (base 131) k p f 5 #[true,false,false,false,true,true,false,false] ⟨#[(.pointer (some ⟨d,0,none⟩)),q,t,u,y,(.pointer (some ⟨o,0,none⟩)),z,A,B,C,g,j,(.pointer (some ⟨d,0,none⟩)),u13,u14,u15,(.pointer (some ⟨o,0,none⟩)),(.int .i64 P),u18,m],[]⟩ W:=by
  refine ⟨fun h=>(by rw [R _ [1,6] (by kernel_rfl)] at h;cases h),fun i b e a=>?_⟩;rw [R _ [1,6] (by kernel_rfl)] at b;subst D;simp only [bz,aM,Tryz.f131] at a ⊢;simp only [List.mem_cons,List.not_mem_nil,or_false] at b
  rcases b with rfl | rfl
  ·exact LoneTo.goes (n:=1) (by s_op;s_stop;exact a _ _ O)
  ·exact LoneTo.goes (n:=1) (by s_op;s_stop;exact a _ _ M)
 have N:cM Tryz.prog Q (base 131) k p f 5 #[true,true,false,false,true,false,false,false] ⟨#[(.pointer (some ⟨d,0,none⟩)),q,t,u,y,(.pointer (some ⟨o,0,none⟩)),z,A,B,C,g,j,(.pointer (some ⟨d,0,none⟩)),(.pointer (some ⟨d,0,none⟩)),u14,u15,(.pointer (some ⟨o,0,none⟩)),u17,u18,m],[]⟩ W:=by
  refine ⟨fun h=>(by rw [R _ [2,5] (by kernel_rfl)] at h;cases h),fun i b e a=>?_⟩;rw [R _ [2,5] (by kernel_rfl)] at b;subst D;simp only [bz,aM,Tryz.f131] at a ⊢;simp only [List.mem_cons,List.not_mem_nil,or_false] at b
  rcases b with rfl | rfl
  ·exact LoneTo.goes (n:=1) (by s_op;s_stop;exact a _ _ T)
  ·exact LoneTo.goes (n:=1) (by s_op;s_stop;exact a _ _ O)
 have a7:cM Tryz.prog Q (base 131) k p f 5 #[true,true,true,false,false,false,false,false] ⟨#[(.pointer (some ⟨d,0,none⟩)),q,t,u,y,(.pointer (some ⟨o,0,none⟩)),z,A,B,C,g,j,(.pointer (some ⟨d,0,none⟩)),(.pointer (some ⟨d,0,none⟩)),(.pointer (some ⟨d,9,none⟩)),u15,u16,u17,u18,m],[]⟩ W:=by
  refine ⟨fun h=>(by rw [R _ [3,4] (by kernel_rfl)] at h;cases h),fun i b e a=>?_⟩;rw [R _ [3,4] (by kernel_rfl)] at b;subst D;simp only [bz,aM,Tryz.f131] at a ⊢;simp only [List.mem_cons,List.not_mem_nil,or_false] at b
  rcases b with rfl | rfl
  ·exact LoneTo.goes (n:=1) (by s_op;s_stop;exact a _ _ a8)
  ·exact LoneTo.goes (n:=1) (by s_op;s_stop;exact a _ _ T)
 have a3:cM Tryz.prog Q (base 131) k p f 6 #[false,false,false,false,true,true,false,false] ⟨#[(.pointer (some ⟨d,0,none⟩)),q,t,u,y,(.pointer (some ⟨o,0,none⟩)),z,A,B,C,g,j,u12,u13,u14,u15,(.pointer (some ⟨o,0,none⟩)),(.int .i64 P),u18,m],[]⟩ W:=by
  refine ⟨fun h=>(by rw [R _ [0,6] (by kernel_rfl)] at h;cases h),fun i b e a=>?_⟩;rw [R _ [0,6] (by kernel_rfl)] at b;subst D;simp only [bz,aM,Tryz.f131] at a ⊢;simp only [List.mem_cons,List.not_mem_nil,or_false] at b
  rcases b with rfl | rfl
  ·exact LoneTo.goes (n:=1) (by s_op;s_stop;exact a _ _ L)
  ·exact LoneTo.goes (n:=1) (by s_op;s_stop;exact a _ _ a4)
 have K:cM Tryz.prog Q (base 131) k p f 6 #[true,false,false,false,true,false,false,false] ⟨#[(.pointer (some ⟨d,0,none⟩)),q,t,u,y,(.pointer (some ⟨o,0,none⟩)),z,A,B,C,g,j,(.pointer (some ⟨d,0,none⟩)),u13,u14,u15,(.pointer (some ⟨o,0,none⟩)),u17,u18,m],[]⟩ W:=by
  refine ⟨fun h=>(by rw [R _ [1,5] (by kernel_rfl)] at h;cases h),fun i b e a=>?_⟩;rw [R _ [1,5] (by kernel_rfl)] at b;subst D;simp only [bz,aM,Tryz.f131] at a ⊢;simp only [List.mem_cons,List.not_mem_nil,or_false] at b
  rcases b with rfl | rfl
  ·exact LoneTo.goes (n:=1) (by s_op;s_stop;exact a _ _ N)
  ·exact LoneTo.goes (n:=1) (by s_op;s_stop;exact a _ _ L)
 have a6:cM Tryz.prog Q (base 131) k p f 6 #[true,true,false,false,false,false,false,false] ⟨#[(.pointer (some ⟨d,0,none⟩)),q,t,u,y,(.pointer (some ⟨o,0,none⟩)),z,A,B,C,g,j,(.pointer (some ⟨d,0,none⟩)),(.pointer (some ⟨d,0,none⟩)),u14,u15,u16,u17,u18,m],[]⟩ W:=by
  refine ⟨fun h=>(by rw [R _ [2,4] (by kernel_rfl)] at h;cases h),fun i b e a=>?_⟩;rw [R _ [2,4] (by kernel_rfl)] at b;subst D;simp only [bz,aM,Tryz.f131] at a ⊢;simp only [List.mem_cons,List.not_mem_nil,or_false] at b
  rcases b with rfl | rfl
  ·exact LoneTo.goes (n:=1) (by s_op;s_stop;exact a _ _ a7)
  ·exact LoneTo.goes (n:=1) (by s_op;s_stop;exact a _ _ N)
 have a2:cM Tryz.prog Q (base 131) k p f 7 #[false,false,false,false,true,false,false,false] ⟨#[(.pointer (some ⟨d,0,none⟩)),q,t,u,y,(.pointer (some ⟨o,0,none⟩)),z,A,B,C,g,j,u12,u13,u14,u15,(.pointer (some ⟨o,0,none⟩)),u17,u18,m],[]⟩ W:=by
  refine ⟨fun h=>(by rw [R _ [0,5] (by kernel_rfl)] at h;cases h),fun i b e a=>?_⟩;rw [R _ [0,5] (by kernel_rfl)] at b;subst D;simp only [bz,aM,Tryz.f131] at a ⊢;simp only [List.mem_cons,List.not_mem_nil,or_false] at b
  rcases b with rfl | rfl
  ·exact LoneTo.goes (n:=1) (by s_op;s_stop;exact a _ _ K)
  ·exact LoneTo.goes (n:=1) (by s_op;s_stop;exact a _ _ a3)
 have a5:cM Tryz.prog Q (base 131) k p f 7 #[true,false,false,false,false,false,false,false] ⟨#[(.pointer (some ⟨d,0,none⟩)),q,t,u,y,(.pointer (some ⟨o,0,none⟩)),z,A,B,C,g,j,(.pointer (some ⟨d,0,none⟩)),u13,u14,u15,u16,u17,u18,m],[]⟩ W:=by
  refine ⟨fun h=>(by rw [R _ [1,4] (by kernel_rfl)] at h;cases h),fun i b e a=>?_⟩;rw [R _ [1,4] (by kernel_rfl)] at b;subst D;simp only [bz,aM,Tryz.f131] at a ⊢;simp only [List.mem_cons,List.not_mem_nil,or_false] at b
  rcases b with rfl | rfl
  ·exact LoneTo.goes (n:=1) (by s_op;s_stop;exact a _ _ a6)
  ·exact LoneTo.goes (n:=1) (by s_op;s_stop;exact a _ _ K)
 have a1:cM Tryz.prog Q (base 131) k p f 8 #[false,false,false,false,false,false,false,false] ⟨#[(.pointer (some ⟨d,0,none⟩)),q,t,u,y,(.pointer (some ⟨o,0,none⟩)),z,A,B,C,g,j,u12,u13,u14,u15,u16,u17,u18,m],[]⟩ W:=by
  refine ⟨fun h=>(by rw [R _ [0,4] (by kernel_rfl)] at h;cases h),fun i b e a=>?_⟩;rw [R _ [0,4] (by kernel_rfl)] at b;subst D;simp only [bz,aM,Tryz.f131] at a ⊢;simp only [List.mem_cons,List.not_mem_nil,or_false] at b
  rcases b with rfl | rfl
  ·exact LoneTo.goes (n:=1) (by s_op;s_stop;exact a _ _ a5)
  ·exact LoneTo.goes (n:=1) (by s_op;s_stop;exact a _ _ a2)
 subst D;exact a1
open Go.RowKit
theorem vO (x:Int) (w:World):Calls Tryz.prog 172 #[.int .i64 x] w fun e a=>e= .returned (.bool false)∧w=a:=by
 have h:(x != x)=false:=by simp
 go_enter Tryz.func172,Tryz.ntmps172;go_wp2_with fail
 go_ret;exact ⟨by simp,rfl⟩
theorem yO (x y:Int) (w:World):Calls Tryz.prog 122 #[.int .i64 x,.int .i64 y] w fun e d=>(∃r:Int,e= .returned (.int .i64 r))∧w=d:=by
 have b:=Lib.hid (fun w=>vO x w);have c:=Lib.hid (fun w=>vO y w)
 by_cases f:x < y
 ·go_enter Tryz.func122,Tryz.ntmps122;go_wp2_with fail
  refine (b.out w).mono ?_;rintro e a ⟨rfl,rfl⟩;go_wp2_with fail
  refine (c.out w).mono ?_;rintro e a ⟨rfl,rfl⟩;go_wp2_with fail
  go_ret;exact ⟨⟨_,rfl⟩,rfl⟩
 ·by_cases g:y < x
  ·go_enter Tryz.func122,Tryz.ntmps122;go_wp2_with fail
   refine (b.out w).mono ?_;rintro e a ⟨rfl,rfl⟩;go_wp2_with fail
   refine (c.out w).mono ?_;rintro e a ⟨rfl,rfl⟩;go_wp2_with fail
   go_ret;exact ⟨⟨_,rfl⟩,rfl⟩
  ·go_enter Tryz.func122,Tryz.ntmps122;go_wp2_with fail
   refine (b.out w).mono ?_;rintro e a ⟨rfl,rfl⟩;go_wp2_with fail
   refine (c.out w).mono ?_;rintro e a ⟨rfl,rfl⟩;go_wp2_with fail
   go_ret;exact ⟨⟨_,rfl⟩,rfl⟩
theorem Ix (g:Nat) (w:World) (h:∀k,k < 2→∃r:Int,w.cell? ⟨g,k,none⟩=some (.int .i64 r)):
  Calls Tryz.prog 121 #[.slice (some ⟨g,0,none⟩) 2 2] w fun e d=>(∃r:Int,e= .returned (.int .i64 r))∧w=d:=by
 have l:=Lib.hid h;clear h;go_enter Tryz.func121,Tryz.ntmps121;go_wp2_with fail
 go_loopw [5,8] (fun _ i d=>∃k:Nat,k≤2∧i= .int .i64 k∧Hid (w=d)) (fun _ i _=>2 - (intOf i).toNat)
 case atStart=>exact ⟨0,by omega,rfl,Lib.hid (by trivial)⟩
 case round=>
  obtain ⟨k,n,rfl,f⟩:=hrel;have m:=f.out;subst m;clear f
  by_cases c:k < 2
  ·have j:(k:Int) < 2:=by omega
   obtain ⟨r,o⟩:=l.out k c
   by_cases a:r=0
   ·subst a;go_wp2_with fail
    exact ⟨⟨k+1,by omega,by go_num,Lib.hid (by trivial)⟩,by simp [intOf];omega⟩
   ·have a:(r != 0)=true:=by simpa using a
    go_wp2_with fail
    go_ret;exact ⟨⟨_,rfl⟩,rfl⟩
  ·have b:k=2:=by omega
   subst b;go_wp2_with fail
   go_ret;exact ⟨⟨_,rfl⟩,rfl⟩
theorem sv (d s g:Nat) (q:Nat→Nat) (A:Value) (S:aa) (i j:Nat) (w:World) (h:bf d w s g q A S) (I:S.items.length≤4294967295) (f:i∈S.live) (o:j∈S.live):
  Calls Tryz.prog 81 #[.pointer (some ⟨s,0,none⟩),.int .i64 ((i:Int)+1),.int .i64 ((j:Int)+1)] w fun e u=>(∃r:Int,e= .returned (.int .i64 r))∧Below w.heap.size w u:=by
 have n:=bm f;have p:=bm o;have c:∀i∈S.live,i < 4294967296:=fun i f=>by have:=bm f;omega
 obtain ⟨_,L,C,v,_⟩:=h.mail i f;obtain ⟨_,M,D,z,_⟩:=h.mail j o;have E:w.drew.cell? ⟨s,3,none⟩=some (.map (some g)):=by show w.cell? _=_;rw [Lib.cell_of_heap h.bag];rfl
 have F:w.drew.cell? ⟨q i,4,none⟩=some (.int .i64 C.1):=by show w.cell? _=_;rw [Lib.cell_of_heap v];rfl
 have G:w.drew.cell? ⟨q j,4,none⟩=some (.int .i64 D.1):=by show w.cell? _=_;rw [Lib.cell_of_heap z];rfl
 have J:(Instr.lookup 115 (.map (some g)) (.int .i64 ((i:Int)+1)) false).run Tryz.prog w.drew= .ok (.pointer (some ⟨q i,0,none⟩)) w.drew:=
  gQ (t:=115) (e:=122) fJ Tryz.underlying115 (w:=w.drew) h.map c i (by omega) f false
 have K:(Instr.lookup 115 (.map (some g)) (.int .i64 ((j:Int)+1)) false).run Tryz.prog w.drew= .ok (.pointer (some ⟨q j,0,none⟩)) w.drew:=
  gQ (t:=115) (e:=122) fJ Tryz.underlying115 (w:=w.drew) h.map c j (by omega) o false
 have l:=Lib.hid (fun (x y:Int) (W:World)=>yO x y W)
 have m:Hid (∀(a b:Int),Calls Tryz.prog 121 #[.slice (some ⟨w.heap.size,0,none⟩) 2 2] (w.drew.alloc (.cells #[.int .i64 a,.int .i64 b] 3)) fun e u=>(∃r:Int,e= .returned (.int .i64 r))∧w.drew.alloc (.cells #[.int .i64 a,.int .i64 b] 3)=u):=Lib.hid (fun a b=>Ix w.heap.size _ (fun k H=>by
  have e:=heap_alloc_new w.drew (.cells #[.int .i64 a,.int .i64 b] 3);have e:(w.drew.alloc (.cells #[.int .i64 a,.int .i64 b] 3)).heap[w.heap.size]? =some (.cells #[.int .i64 a,.int .i64 b] 3 (0,0)):=e;rw [Lib.cell_of_heap e];obtain rfl | rfl:k=0∨k=1:=by omega
  ·exact ⟨a,rfl⟩
  ·exact ⟨b,rfl⟩))
 clear h v z c n p;go_enter Tryz.func81,Tryz.ntmps81;go_wp2_with fail
 go_region_law (first
  | (go_simp;go_at_call 122;refine (l.out _ _ _).mono ?_;rintro e B ⟨⟨r,rfl⟩,rfl⟩;dsimp only)
  | (go_simp;go_at_call 121;refine (m.out _ _).mono ?_;rintro e B ⟨⟨r,rfl⟩,rfl⟩;dsimp only))
 all_goals
  go_wp2_with fail
  go_ret;exact ⟨⟨_,rfl⟩,((Below.refl _ w).drew).alloc (Nat.le_refl _) _⟩
theorem zG (o I Q:Nat) (q:Nat→Nat) (R v:Value) (S:aa) (l:List Nat) (w:World) (h:bf o w I Q q R S) (hn:S.items.length≤1048576) (N:∀i∈l,i∈S.live) (h1:1≤l.length) (hz:l.length≤1048576) (A:aZ w v l.length 1 ((ie l).map fun (i:Int)=> .int .i64 i)):
  Calls Tryz.prog 80 #[v,.func (.func 81) #[.pointer (some ⟨I,0,none⟩)] #[]] w fun e J=>∃i∈l,e= .returned (.int .i64 ((i:Int)+1))∧Below w.heap.size w J:=by
 have U:=Lib.hid A;have T:=Lib.hid h;have K:=Lib.hid N;obtain ⟨a,D,rfl,x⟩:=A.one;obtain ⟨V,y,rfl,_,f⟩:=x 0 (by omega);have c:∀(k:Nat) (F:k < l.length),((ie l).map fun (i:Int)=>Value.int .i64 i)[k]? =some (.int .i64 ((l[k]:Int)+1)):=fun k F=>by simp [ie,F]
 rw [c 0 (by omega)] at f;have C:=Lib.hid c;have n:l[0]∈l:=List.getElem_mem _
 generalize l[0]=i0 at f n
 have O:¬(l.length:Int) < 1:=by omega
 have M:l.length≤D:=A.cap;clear A h x N c;rw [Nat.add_zero] at f;go_enter Tryz.func80,Tryz.ntmps80;go_wp2_with fail
 go_loopw [5,6] (fun m i J=>∃(k j:Nat),1≤k∧k≤l.length∧i= .int .i64 k∧j∈l∧m= .int .i64 ((j:Int)+1)∧Hid (Below w.heap.size w J)) (fun _ i _=>l.length - (intOf i).toNat)
 case atStart=>exact ⟨1,i0,by omega,by omega,rfl,n,rfl,Lib.hid (Below.refl _ _)⟩
 case round=>
  obtain ⟨k,j,Y,F,rfl,E,rfl,t⟩:=hrel
  by_cases s:k < l.length
  ·have P:(k:Int) < (l.length:Int):=by omega
   obtain ⟨a',L,W,x⟩:=(U.out.below t.out).one;injection W with ea1 _ ea3;obtain ⟨b,Z,z,_,d⟩:=x k s;rw [←ea1] at z;injection z with z;injection z with e3 e4;subst e3 e4;rw [C.out k s] at d;have g:l[k]∈l:=List.getElem_mem s
   generalize l[k]=i at d g
   have H:w.heap.size≤wr.heap.size:=t.out.size;have B:=Lib.hid (sv o I Q q R S i j wr (T.out.keep t.out) (by omega) (K.out i g) (K.out j E));clear x ea1 ea3;go_wp2_with (first | (go_at_call 81;refine B.out.mono ?_;rintro e w2 ⟨⟨r,rfl⟩,p⟩;have X:w2.cell? ⟨V,y+k,none⟩=some (.int .i64 ((i:Int)+1)):=((p.cell (aA d)).trans d);have u:=Lib.hid (t.out.trans (p.mono H));clear p) | fail)
   all_goals
    first
    | exact ⟨⟨k+1,i,by omega,by omega,by go_num,g,rfl,u⟩,by simp [intOf];omega⟩
    | exact ⟨⟨k+1,j,by omega,by omega,by go_num,E,rfl,u⟩,by simp [intOf];omega⟩
  ·have G:k=l.length:=by omega
   subst G;go_wp2_with fail
   go_ret;exact ⟨j,E,rfl,t.out⟩
end Go.Proofs.YtofpegbpgkkgkaaGreatDoor
