import Derived.Test.YtofpegbpgkkgkaaGreatDoorS13
import Derived.Test.YtofpegbpgkkgkaaGreatDoorS14
namespace Go.Proofs.YtofpegbpgkkgkaaGreatDoor
set_option maxHeartbeats 8000000
set_option maxRecDepth 1000000
structure iB (S S':aa):Prop where
 len:S.items.length≤S'.items.length
 mail:∀j,j < S.items.length→S'.mailOf j=S.mailOf j
 stay:∀j,j < S.items.length→∀r∈S'.stayOf j,r∈S.stayOf j
 new:∀j,S.items.length≤j→j < S'.items.length→xu (S'.mailOf j)
theorem iB.refl (S:aa):iB S S:=⟨Nat.le_refl _,fun _ _=>rfl,fun _ _ _ h=>h,fun _ a b=>by omega⟩
theorem iB.trans {S d a:aa} (h:iB S d) (b:iB d a):iB S a:=
 ⟨Nat.le_trans h.len b.len,fun j c=>(b.mail j (Nat.lt_of_lt_of_le c h.len)).trans (h.mail j c),fun j c r i=>h.stay j c r (b.stay j (Nat.lt_of_lt_of_le c h.len) r i),fun j f g=>by
  by_cases e:j < d.items.length
  ·rw [b.mail j e];exact h.new j f e
  ·exact b.new j (by omega) g⟩
theorem Left.later {x y:aa×List UInt8} {i:Nat} {c:List Nat} (h:Left x y i c):iB x.1 y.1:=
 ⟨h.aft.len,h.aft.mail,fun j b r a=>by
  by_cases e:j=i
  ·subst e;rw [h.stay] at a;exact (List.mem_filter.1 a).1
  ·rw [h.aft.stay j b e] at a
   exact a,h.new⟩
theorem CY (S:aa) (T:Nat):iB S ⟨S.items,T⟩:=⟨Nat.le_refl _,fun _ _=>rfl,fun _ _ _ h=>h,fun j h1 (a:j < S.items.length)=>by omega⟩
theorem rX (a:List (List UInt8)) (o:List Bool):((stay a o).map (·.1)).Pairwise (·< ·):=by
 unfold stay;rw [List.map_map];have:((fun r:Nat×List UInt8=>r.1) ∘ fun i=>(i,a.getD i []))=id:=rfl;rw [this,List.map_id];exact mz o _
theorem kE {S:aa} (h:S.Ok) (i:Nat):∀x∈(S.stayOf i).map (·.1),x≤255:=by
 intro x d;obtain ⟨r,a,rfl⟩:=List.mem_map.1 d
 rcases Nat.lt_or_ge i S.items.length with b | b
 ·rw [gT b] at a;unfold stay at a;obtain ⟨k,c,rfl⟩:=List.mem_map.1 a;unfold iW at c;have:=List.mem_range.1 (List.mem_filter.1 c).1;have:=h.sz S.items[i] (List.getElem_mem b);show k≤255;omega
 ·rw [rb b] at a;cases a
def kW (life:Int) (x:aa×List UInt8) (i:Nat):aa×List UInt8:=if life≤(x.1.time:Int) - ((x.1.mailOf i).time:Int) then jr x i ((x.1.stayOf i).map (·.1)) else x
def dw (life:Int) (x:aa×List UInt8) (l:List Nat):aa×List UInt8:=l.foldl (kW life) x
theorem pg (a:Int) (x:aa×List UInt8) (l:List Nat) (i:Nat):dw a x (l++[i])=kW a (dw a x l) i:=by unfold dw;rw [List.foldl_append];rfl
theorem ud {x:aa×List UInt8} (h:oK x) {i:Nat} (a:i∈x.1.live):((x.1.stayOf i).map (·.1)).length≤100∧bF ((x.1.stayOf i).map (·.1))=true∧((x.1.stayOf i).map (·.1)≠[]→bt x.1 (i+1) ((x.1.stayOf i).map (·.1))=true):=by
 refine ⟨by rw [List.length_map];have:=dk h.ok i;omega,jg (rX _ _),fun e=>Dd a (List.length_pos_iff.2 e) (fun p b=>b)⟩
theorem F5 {x:aa×List UInt8} (h:oK x) {i:Nat} (e:i∈x.1.live) (d:Int):oK (kW d x i)∧DY i x.1 (kW d x i).1∧iB x.1 (kW d x i).1:=by
 unfold kW
 split
 ·obtain ⟨a,b,c⟩:=ud h e;have:=(nP h a b c).1;exact ⟨this.ok,this.aft,this.later⟩
 ·exact ⟨h,DY.refl _ _,iB.refl _⟩
theorem Gj {S a:aa} {i j:Nat} (h:DY i S a) (b:j∈S.live) (d:j≠i):j∈a.live:=by
 have c:=bq b;refine zo ?_;rw [h.stay j c d];exact (jT.1 b).2
theorem lB {x:aa×List UInt8} (h:oK x) (d:Int) {l:List Nat} (q:∀i∈l,i∈x.1.live) (r:l.Nodup):∀k,k≤l.length→oK (dw d x (l.take k))∧(∀i∈l.drop k,i∈(dw d x (l.take k)).1.live)∧(dw d x (l.take k)).1.time=x.1.time∧iB x.1 (dw d x (l.take k)).1:=by
 intro k
 induction k with
 | zero=>exact fun _=>⟨h,fun i f=>q i f,rfl,iB.refl _⟩
 | succ k ih=>
  intro s;obtain ⟨n,g,o,p⟩:=ih (by omega);rw [List.take_succ_eq_append_getElem (by omega:k < l.length),pg];have m:l.drop k=l[k]::l.drop (k+1):=List.drop_eq_getElem_cons (by omega);rw [m] at g;obtain ⟨a,b,c⟩:=F5 n (g _ (List.mem_cons_self ..)) d;have j:(l[k]::l.drop (k+1)).Nodup:=by rw [←m];exact r.sublist (List.drop_sublist _ _)
  exact ⟨a,fun i f=>Gj b (g i (List.mem_cons_of_mem _ f)) (fun e=>(List.nodup_cons.1 j).1 (by rw [←e];exact f)),b.time.trans o,p.trans c⟩
open Go.Conc Go.RowKit
theorem rE {P:Program} {a:Act} {o:Oper} {w:World} (s x:Operand) (t:TypeId) (b:o.op= .call {callee:= .builtin .append,args:=#[s,x],argTypes:=#[t,t]}) (v y r:Value) (w':World) (d:a.eval s=v) (e:a.eval x=y) (c:(Builtin.append_ #[t,t] o.type #[v,y]).run P w= .ok r w'):(execOp a.eval o).run P w= .ok (.value r) w':=by
 unfold execOp;simp only [b,resolve,invoke,builtin,Sem.run_bind,Sem.run_pure,Result.andThen_ok,List.map_toArray,List.map_cons,List.map_nil,d,e,c]
structure kK (w0 w:World) (ch:Nat) (vg vf:Value) (gs fs:List Nat):Prop where
 chg:aH (fun j=>j=ch) w0 w
 rg:w.ownsRow w0.heap.size 3 1 vg gs.length (aZ gs)
 rf:w.ownsRow w0.heap.size 3 1 vf fs.length (aZ fs)
 ap:∀k,vg.ownBlock=some k→vf.ownBlock≠some k
section
variable {w0 w w':World} {ch:Nat} {vg vf:Value} {gs fs:List Nat}
theorem kK.swap (h:kK w0 w ch vg vf gs fs):kK w0 w ch vf vg fs gs:=⟨h.chg,h.rf,h.rg,fun k e a=>h.ap k a e⟩
theorem kK.keep (h:kK w0 w ch vg vf gs fs) (a:aH (fun j=>j=ch) w w') (c:ch < w0.heap.size):kK w0 w' ch vg vf gs fs:=
 ⟨h.chg.trans a (fun _ _ e=>e),bC h.rg a (fun g e b=>by have:=(h.rg.lt g e).1;omega),bC h.rf a (fun g e b=>by have:=(h.rf.lt g e).1;omega),h.ap⟩
theorem kK.plus (h:kK w0 w ch vg vf gs fs) (y:ch < w0.heap.size) (x B:Nat) (v:w.heap[B]? =some (.cells #[.int .i64 (x:Int)] 3 (0,0))) (E:gs.length≤1000):
  ∃g d w',(Builtin.append_ #[28,28] 28 #[vg,.slice (some ⟨B,0,none⟩) 1 1]).run Tryz.prog w= .ok (.slice (some ⟨g,0,none⟩) (gs.length+1) d) w'∧kK w0 w' ch (.slice (some ⟨g,0,none⟩) (gs.length+1) d) vf (gs++[x]) fs∧w'.heap[ch]? =w.heap[ch]? :=by
 obtain ⟨i,z,l,m,n⟩:=info_parts qP;have c:=h.chg.size;obtain ⟨g,d,w',D,q,r⟩:=gC (P:=Tryz.prog) w 28 28 w0.heap.size 3 i _ 1 8 Tryz.underlying28 z l m n rfl (by decide) vg gs.length (aZ gs) h.rg ⟨B,0,none⟩ 1 1 [.int .i64 (x:Int)] rfl (World.news_of_block (cs:=#[.int .i64 (x:Int)]) (t:=3) (fr:=(0,0)) v) (by intro u p;simp at p;rw [p];rfl) (by decide) (by unfold maxLen;omega) (by omega) c
 have a:aH (fun k=>vg.ownBlock=some k) w w':=by
  rcases r with ⟨b,j⟩ | ⟨_,j⟩
  ·exact (aH.grown j).mono fun k _ e=>b.trans e
  ·exact (aH.grown j).mono fun k _ e=>by cases e
 have s:vg.ownBlock=some g∨w.heap.size≤g:=by
  rcases r with ⟨b,_⟩ | ⟨b,_⟩
  ·exact .inl b
  ·exact .inr (by rw [b];exact Nat.le_refl _)
 refine ⟨g,d,w',D,⟨⟨Nat.le_trans c a.size,fun k A C=>(a.block k (by omega) (fun e=>by have:=(h.rg.lt k e).1;omega)).trans (h.chg.block k A C),h.chg.still.trans a.still⟩,?_,bC h.rf a (fun k e f=>h.ap k f e),fun k e f=>?_⟩,a.block ch (by omega) (fun e=>by have:=(h.rg.lt ch e).1;omega)⟩
 ·rw [List.length_append];unfold aZ at q ⊢;rw [List.map_append];exact q
 ·have e:g=k:=by simpa [Value.ownBlock] using e
  subst e
  rcases s with o | o
  ·exact h.ap g o f
  ·have:=(h.rf.lt g f).2;omega
end
theorem EF (O ch C:Nat) (w0:World) (cs:List Frame) (R:Value→Value→World→Prop) (a:ch < w0.heap.size) (a2:O≠ch) (i:w0.cell? ⟨O,9,none⟩=some (.chan (some ch))):
  ∀(u:List (Nat×Bool)) (gs fs:List Nat) (w:World) (s r:Nat) (vg vf u1 u4 u5 u6 u7 u8 u9 u10 u11 u12 u13 u14 u15 u16 u17 u18 u19 u20 u21 u22 u23 u24 u25 u26 u27 u28 u29 u30:Value),kK w0 w ch vg vf gs fs→w.heap[ch]? =some (.chan C (u.map df).toArray false s r false)→gs.length+fs.length+u.length≤1000→
   (∀w' m l B A,kK w0 w' ch m l B A→B=mE (gs++(u.filter fun x=>x.2 == true).map (·.1))→A=mE (fs++(u.filter fun x=>x.2 == false).map (·.1))→(∃s' r',w'.heap[ch]? =some (.chan C #[] false s' r' false))→R m l w')→
   LoneTo Tryz.prog (fun g' w'=>∃e fr,g'=G fr cs∧(∃m l,e= .returned (.tuple #[m,l])∧R m l w')∧fr.fn=78∧fr.leaving Tryz.prog w' e)
    (G ((base 78).at ⟨#[.pointer (some ⟨O,0,none⟩),u1,vg,vf,u4,u5,u6,u7,u8,u9,u10,u11,u12,u13,u14,u15,u16,u17,u18,u19,u20,u21,u22,u23,u24,u25,u26,u27,u28,u29,u30],[]⟩ [.code (aV Tryz.f78.body),.inLoop (aV Tryz.f78.body),.inBlock 0]) cs) w:=by
 intro u
 induction u with
 | nil=>
  intro gs fs w s r vg vf u1 u4 u5 u6 u7 u8 u9 u10 u11 u12 u13 u14 u15 u16 u17 u18 u19 u20 u21 u22 u23 u24 u25 u26 u27 u28 u29 u30 o q hz X;have hc:w.cell? ⟨O,9,none⟩=some (.chan (some ch)):=(World.cell?_of_block (o.chg.block O (aC i) a2)).trans i;simp only [List.map_nil] at q;refine LoneTo.goes (n:=30) ?_;simp only [aV,Tryz.f78]
  s_c stepG_block
  s_c stepG_seq
  s_reg
  s_op
  s_op
  s_op
  s_op
  s_c stepG_region_end
  s_c stepG_seq
  s_reg
  s_stop
  refine LoneTo.step (step_lone_select_default (c:=ch) (z:= .agg #[.int .i64 0,.bool false]) (stepG_comm (cases:=#[rcase ch (.agg #[.int .i64 0,.bool false])]) (blocking:=false) (shape:= .select) (w':=w) rfl rfl (by decide) (by simp [go_sem,rcase,Act.eval,execOp])) q) ?_;rw [Frame.finish_at]
  walk_nrm
  refine LoneTo.goes (n:=20) ?_
  s_op
  s_op
  s_c stepG_region_end
  s_c stepG_block
  s_cond false
  s_c stepG_seq
  s_reg
  s_op
  s_stop
  refine LoneTo.step (step_solo_go rfl (stepG_enter (f:=94) (args:=#[vg]) (w':=w) rfl rfl (by decide) (by simp [go_sem,Act.eval,execOp]))) ?_;refine yJ (yg _ vg gs w o.rg (by omega)) (fun _ _ h=>by cases h.1) (fun _ h=>by cases h.1) fun v I V=>?_;obtain ⟨_,r1,J⟩:=V;rw [Frame.finish_at]
  walk_nrm
  refine LoneTo.goes (n:=20) ?_
  s_c stepG_region_end
  s_c stepG_seq
  s_reg
  s_op
  s_stop
  refine LoneTo.step (step_solo_go rfl (stepG_enter (f:=94) (args:=#[vf]) (w':=I) rfl rfl (by decide) (by simp [go_sem,Act.eval,execOp]))) ?_;refine yJ (yg _ vf fs I (bC o.rf J (fun k e e2=>o.ap k e2 e)) (by omega)) (fun _ _ h=>by cases h.1) (fun _ h=>by cases h.1) fun v2 d W=>?_;obtain ⟨_,r2,T⟩:=W;have a1:=o.chg.size;have ng:∀k,k < w0.heap.size→¬vg.ownBlock=some k:=fun k hk e=>by have:=(o.rg.lt k e).1;omega
  have nf:∀k,k < w0.heap.size→¬vf.ownBlock=some k:=fun k hk e=>by have:=(o.rf.lt k e).1;omega
  have a4:=J.size
  have Y:R vg vf d:=by
   refine X d vg vf (mE gs) (mE fs) ⟨⟨Nat.le_trans a1 (Nat.le_trans a4 T.size),fun k hk hn=>(T.block k (by omega) (nf k hk)).trans ((J.block k (by omega) (ng k hk)).trans (o.chg.block k hk hn)),(o.chg.still.trans J.still).trans T.still⟩,?_,?_,o.ap⟩ (by simp) (by simp) ⟨s,r,?_⟩
   ·rw [show (mE gs).length=gs.length from List.length_mergeSort _];exact bC r1 T (fun k e e2=>o.ap k e e2)
   ·rw [show (mE fs).length=fs.length from List.length_mergeSort _];exact r2
   ·rw [T.block ch (by omega) (nf ch a),J.block ch (by omega) (ng ch a)];simpa using q
  clear X o q hc J T r1 r2;rw [Frame.finish_at]
  walk_nrm
  refine LoneTo.goes (n:=20) ?_
  s_c stepG_region_end
  s_c stepG_seq
  s_reg
  s_op
  s_op
  s_op
  s_op
  s_c stepG_region_end
  s_c stepG_ret'
  s_stop
  exact LoneTo.done ⟨.returned (.tuple #[vg,vf]),_,rfl,⟨vg,vf,rfl,Y⟩,rfl,rfl,rfl,rfl,_,Tryz.func78,by simp [results,Tryz.f78,Frame.at]⟩
 | cons x u ih=>
  intro gs fs w s r vg vf u1 u4 u5 u6 u7 u8 u9 u10 u11 u12 u13 u14 u15 u16 u17 u18 u19 u20 u21 u22 u23 u24 u25 u26 u27 u28 u29 u30 o q hz X;have hc:w.cell? ⟨O,9,none⟩=some (.chan (some ch)):=(World.cell?_of_block (o.chg.block O (aC i) a2)).trans i;obtain ⟨P,b⟩:=x;have Z:((((P,b)::u).map df).toArray).extract 1 ((((P,b)::u).map df).toArray).size=(u.map df).toArray:=by simp [List.take_of_length_le]
  have a0:((((P,b)::u).map df).toArray).getD 0 undef= .agg #[.int .i64 (P:Int),.bool b]:=by simp [df]
  have a1:=o.chg.size;have K:ch < w.heap.size:=by omega
  simp only [List.length_cons] at hz;refine LoneTo.goes (n:=30) ?_;simp only [aV,Tryz.f78]
  s_c stepG_block
  s_c stepG_seq
  s_reg
  s_op
  s_op
  s_op
  s_op
  s_c stepG_region_end
  s_c stepG_seq
  s_reg
  s_stop
  refine LoneTo.step (step_lone_select_recv_buf (c:=ch) (z:= .agg #[.int .i64 0,.bool false]) (stepG_comm (cases:=#[rcase ch (.agg #[.int .i64 0,.bool false])]) (blocking:=false) (shape:= .select) (w':=w) rfl rfl (by decide) (by simp [go_sem,rcase,Act.eval,execOp])) q (by simp)) ?_;rw [Z,a0];rw [Frame.finish_at]
  walk_nrm
  have E:=heap_setChan w ch C (u.map df).toArray false s (r+1) false K;have J:aH (fun j=>j=ch) w (w.setChan ch C (u.map df).toArray false s (r+1) false):=⟨by simp [World.setChan],fun j hj hn=>by simp [World.setChan,Array.getElem?_setIfInBounds_ne (Ne.symm hn)],⟨rfl,rfl,rfl⟩⟩
  obtain ⟨I,a3⟩:∃I,w.setChan ch C (u.map df).toArray false s (r+1) false=I:=⟨_,rfl⟩;rw [a3] at E J ⊢;have S1:=o.keep J a;clear a3 hc q Z a0 K o J;refine LoneTo.goes (n:=40) ?_
  s_op
  s_op
  s_c stepG_region_end
  s_c stepG_block
  s_cond true
  s_c stepG_seq
  s_reg
  s_op
  s_op
  s_op
  s_c stepG_region_end
  s_c stepG_seq
  have X2:=heap_alloc_new I (.cells #[.int .i64 (P:Int),.bool b] 201);obtain ⟨d,N⟩:∃d:World,I.alloc (.cells #[.int .i64 (P:Int),.bool b] 201)=d:=⟨_,rfl⟩;have B2:Below I.heap.size I d:=by rw [←N];exact (Below.refl _ _).alloc (Nat.le_refl _) _
  rw [N] at X2 ⊢;have S2:=S1.keep (aH.below B2) a;have y:=ae B2 E;have p0:d.cell? ⟨I.heap.size,0,none⟩=some (.int .i64 (P:Int)):=by rw [Lib.cell_of_heap X2];rfl
  have p1:d.cell? ⟨I.heap.size,1,none⟩=some (.bool b):=by rw [Lib.cell_of_heap X2];rfl
  clear S1 X2 N E
  s_reg
  s_op
  s_op
  s_c stepG_region_end
  cases b with
  | true=>
   s_cond true
   s_reg
   s_op
   s_op
   s_op
   s_op
   s_stop
   have M:=heap_alloc_new d (.cells #[.int .i64 (P:Int)] 3);obtain ⟨Q,t⟩:∃Q:World,d.alloc (.cells #[.int .i64 (P:Int)] 3)=Q:=⟨_,rfl⟩;have L:Below d.heap.size d Q:=by rw [←t];exact (Below.refl _ _).alloc (Nat.le_refl _) _
   rw [t] at M ⊢;obtain ⟨g,U,S,H,S4,D⟩:=(S2.keep (aH.below L) a).plus a P d.heap.size M (by omega);have F:=D.trans (ae L y);refine LoneTo.step (step_solo_go rfl (stepG_value (v:= .slice (some ⟨g,0,none⟩) (gs.length+1) U) (w':=S) rfl rfl (by decide) (rE (.tmp 21) (.tmp 24) 28 rfl vg (.slice (some ⟨d.heap.size,0,none⟩) 1 1) _ S rfl rfl H))) ?_
   walk_nrm
   have p:=ih (gs++[P]) fs S s (r+1) (.slice (some ⟨g,0,none⟩) (gs.length+1) U) vf;simp only [aV,Tryz.f78] at p;clear ih H M t L S2 y p0 p1 D B2;refine LoneTo.goes (n:=20) ?_
   s_op
   s_c stepG_region_end
   s_c stepG_inBlock
   s_c stepG_inBlock
   s_c stepG_inLoop
   s_stop
   exact p _ _ _ _ _ _ _ _ _ _ _ _ _ _ _ _ _ _ _ _ _ _ _ _ _ _ _ _ S4 F (by rw [List.length_append];simp only [List.length_cons,List.length_nil];omega) (fun w' m l B A V W h3 h4=>X w' m l B A V (by rw [W];simp) (by rw [h3];simp) h4)
  | false=>
   s_cond false
   s_reg
   s_op
   s_op
   s_op
   s_op
   s_stop
   have M:=heap_alloc_new d (.cells #[.int .i64 (P:Int)] 3);obtain ⟨Q,t⟩:∃Q:World,d.alloc (.cells #[.int .i64 (P:Int)] 3)=Q:=⟨_,rfl⟩;have L:Below d.heap.size d Q:=by rw [←t];exact (Below.refl _ _).alloc (Nat.le_refl _) _
   rw [t] at M ⊢;obtain ⟨g,U,S,H,S4,D⟩:=(S2.keep (aH.below L) a).swap.plus a P d.heap.size M (by omega);have F:=D.trans (ae L y);refine LoneTo.step (step_solo_go rfl (stepG_value (v:= .slice (some ⟨g,0,none⟩) (fs.length+1) U) (w':=S) rfl rfl (by decide) (rE (.tmp 26) (.tmp 29) 28 rfl vf (.slice (some ⟨d.heap.size,0,none⟩) 1 1) _ S rfl rfl H))) ?_
   walk_nrm
   have p:=ih gs (fs++[P]) S s (r+1) vg (.slice (some ⟨g,0,none⟩) (fs.length+1) U);simp only [aV,Tryz.f78] at p;clear ih H M t L S2 y p0 p1 D B2;refine LoneTo.goes (n:=20) ?_
   s_op
   s_c stepG_region_end
   s_c stepG_inBlock
   s_c stepG_inBlock
   s_c stepG_inLoop
   s_stop
   exact p _ _ _ _ _ _ _ _ _ _ _ _ _ _ _ _ _ _ _ _ _ _ _ _ _ _ _ _ S4.swap F (by rw [List.length_append];simp only [List.length_cons,List.length_nil];omega) (fun w' m l B A V W h3 h4=>X w' m l B A V (by rw [W];simp) (by rw [h3];simp) h4)
def Gd (_tb ch cap:Nat) (t:aQ) (w:World) (e:Ending) (w':World):Prop:=
 ∃vg vf,e= .returned (.tuple #[vg,vf])∧kK w w' ch vg vf (t.took true) (t.took false)∧∃s' r',w'.heap[ch]? =some (.chan cap #[] false s' r' false)
theorem qz (c ch a s r:Nat) (t:aQ) (w:World) (j:c≠ch) (b:w.cell? ⟨c,9,none⟩=some (.chan (some ch))) (d:w.heap[ch]? =some (.chan a (t.came.map df).toArray false s r false)) (E:t.came.length≤1000):
  Calls Tryz.prog 78 #[.pointer (some ⟨c,0,none⟩)] w (Gd c ch a t w):=by
 refine calls_of_loneTo (fun q=>?_) (fun w' h=>by obtain ⟨_,_,h,_⟩:=h;cases h)
 have e:Frame.enter Tryz.prog 78 #[.pointer (some ⟨c,0,none⟩)] .normal=(base 78).at ⟨#[.pointer (some ⟨c,0,none⟩),undef,undef,undef,undef,undef,undef,undef,undef,undef,undef,undef,undef,undef,undef,undef,undef,undef,undef,undef,undef,undef,undef,undef,undef,undef,undef,undef,undef,undef,undef],[]⟩ [.code (Tryz.f78.body.getD .skip)]:=by
  simp [Frame.enter,Frame.at,Tryz.func78,base,Tryz.f78]
 rw [e];have f:=EF c ch a w q (fun vg vf w'=>kK w w' ch vg vf (t.took true) (t.took false)∧∃G F,w'.heap[ch]? =some (.chan a #[] false G F false)) (ah d) j b t.came [] [] w s r (.slice none 0 0) (.slice none 0 0);simp only [aV,Tryz.f78] at f;clear e;refine LoneTo.goes (n:=20) ?_;simp only [Tryz.f78,Option.getD_some]
 s_c stepG_seq
 s_reg
 s_op
 s_op
 s_c stepG_region_end
 s_c stepG_block
 s_c stepG_loop
 s_stop
 obtain ⟨y,w',z,e,x,A,⟨vg,vf,B,C⟩,D⟩:=f _ _ _ _ _ _ _ _ _ _ _ _ _ _ _ _ _ _ _ _ _ _ _ _ _ _ _ _ ⟨aH.refl _ _,World.ownsRow_nil _ _ _ _,World.ownsRow_nil _ _ _ _,fun k e=>by cases e⟩ d (by simpa using E) (fun w' I H i g l m o p=>⟨by
  have u:i=t.took true:=m;have v:g=t.took false:=o;rw [←u,←v]
  exact l,p⟩)
 exact ⟨y,w',z,e,x,A,⟨vg,vf,B,C⟩,D⟩
end Go.Proofs.YtofpegbpgkkgkaaGreatDoor
