import Derived.Test.YtofpegbpgkkgkaaGreatDoorS16
namespace Go.Proofs.YtofpegbpgkkgkaaGreatDoor
set_option maxHeartbeats 8000000
set_option maxRecDepth 1000000
open Go.RowKit
theorem bh.mono {base e g f:Nat} {q:Nat→Nat} {j:Value} {S:bp} {w:World} (h:bh base w g f q j S) (d:e≤base):bh e w g f q j S:=
 ⟨h.bag,h.map,Nat.le_trans d h.pbb,Nat.le_trans d h.mbb,h.one,fun i k=>by
  obtain ⟨a,v,x,b,c⟩:=h.mail i k
  exact ⟨Nat.le_trans d a,v,x,b,c.mono d⟩⟩
open Go.Conc Go.RowKit
theorem DM {P:Program} {d:Bool} {c:Array Oper} {b:Frame} {a:Act} {k:List Item} {e:List Frame} {w:World} {f:Nat}:
  stepG P d (G (b.at a (.code (.region f c true)::k)) e) w= .go (G (b.at a (.inRegion c (Region.schedule (P.follows .mixedOrders) c (w.tape w.drawn (.order b.fn f)))::k)) e) w.drew:=by
 simp [G,stepG,stepG.exec,Frame.at,choose,Sem.run,Question.forced,Question.cut]
def cZ (P:Program) (Q:Goroutine→World→Prop) (b:Frame) (k:List Item) (cs:List Frame) (ops:Array Oper):Nat→Array Bool→Act→World→Prop
 | 0,listed,a,w=>Region.ready .any ops listed=[]∧LoneTo P Q (G (b.at a (.inRegion ops []::k)) cs) w
 | fuel+1,listed,a,w=>
  (Region.ready .any ops listed=[]→LoneTo P Q (G (b.at a (.inRegion ops []::k)) cs) w)∧
  ∀i∈Region.ready .any ops listed,∀rest,(∀a' w',cZ P Q b k cs ops fuel (listed.setIfInBounds i true) a' w'→LoneTo P Q (G (b.at a' (.inRegion ops rest::k)) cs) w')→LoneTo P Q (G (b.at a (.inRegion ops (i::rest)::k)) cs) w
theorem A8 {P:Program} {Q:Goroutine→World→Prop} {b:Frame} {k:List Item} {g:List Frame} {d:Array Oper}:∀(e t:Nat) (c:Array Bool) (a:Act) (w:World),cZ P Q b k g d e c a w→
  LoneTo P Q (G (b.at a (.inRegion d (Region.linearise.go .any d e t c [])::k)) g) w:=by
 intro e
 induction e with
 | zero=>intro t c a w h;simpa [Region.linearise.go] using h.2
 | succ e ih=>
  intro t c a w h;obtain ⟨p,q⟩:=h;simp only [Region.linearise.go]
  change LoneTo P Q (G (b.at a (.inRegion d (match (Region.ready .any d c)[t % (Region.ready .any d c).length]? with
   | some i=>Region.linearise.go .any d e (t / (Region.ready .any d c).length) (c.setIfInBounds i true) [i]
   | none=>[].reverse)::k)) g) w
  cases j:(Region.ready .any d c)[t % (Region.ready .any d c).length]? with
  | none=>
   have f:Region.ready .any d c=[]:=by
    cases o:Region.ready .any d c with
    | nil=>rfl
    | cons x xs=>
     rw [o] at j;have l:t % (x::xs).length < (x::xs).length:=Nat.mod_lt _ (by simp);simp at j;simp at l;omega
   simpa using p f
  | some i=>
   simp only [];rw [linearise_go_acc,List.reverse_singleton,List.singleton_append];exact q i (List.mem_of_getElem? j) _ (fun m r n=>ih _ _ m r n)
theorem mA {P:Program} {Q:Goroutine→World→Prop} {b:Frame} {k:List Item} {d:List Frame} {c:Array Oper} {f:Nat} {a:Act} {w:World} (e:P.follows .mixedOrders=true)
  (h:cZ P Q b k d c c.size (Array.replicate c.size false) a w.drew):LoneTo P Q (G (b.at a (.code (.region f c true)::k)) d) w:=by
 refine LoneTo.step (step_solo_go rfl DM) ?_;simp only [Region.schedule,e,Bool.true_or,if_true];exact A8 c.size _ _ a _ h
def aV:Option Code→Code
 | some (.seq _ (.block _ (.loop c)))=>c
 | _=> .skip
def bH:Code→Array Oper
 | .seq _ (.seq _ (.seq (.block _ (.seq _ (.region _ ops _))) _))=>ops
 | _=>#[]
theorem AD (Q:Goroutine→World→Prop) (k:List Item) (p:List Frame) (d H o F s r id:Nat) (E:Array Value) (P:Int) (w:World) (hc:w.cell? ⟨d,9,none⟩=some (.chan (some H))) (hP:w.cell? ⟨o,0,none⟩=some (.int .i64 P)) (a0:w.heap[H]? =some (.chan F E false s r false)) (J:E.size < F) (q t u y z A B C g j u12 u13 u14 u15 u16 u17 u18 m:Value)
  (hk:LoneTo Tryz.prog Q (G ((base 129).at ⟨#[(.pointer (some ⟨d,0,none⟩)),q,t,u,y,(.pointer (some ⟨o,0,none⟩)),z,A,B,C,g,j,(.pointer (some ⟨d,0,none⟩)),(.pointer (some ⟨d,0,none⟩)),(.pointer (some ⟨d,9,none⟩)),(.chan (some H)),(.pointer (some ⟨o,0,none⟩)),(.int .i64 P),(.agg #[.int .i64 P,.bool false]),m],[]⟩ k) p) (w.drew.setChan H F (E.push (.agg #[.int .i64 P,.bool false])) false (s+1) r false)):
  LoneTo Tryz.prog Q (G ((base 129).at ⟨#[(.pointer (some ⟨d,0,none⟩)),q,t,u,y,(.pointer (some ⟨o,0,none⟩)),z,A,B,C,g,j,u12,u13,u14,u15,u16,u17,u18,m],[]⟩ (.code (.region id (bH (aV Tryz.f129.body)) true)::k)) p) w:=by
 refine mA (by kernel_rfl) ?_;have b1:w.drew.cell? ⟨d,9,none⟩=some (.chan (some H)):=hc;have b0:w.drew.cell? ⟨o,0,none⟩=some (.int .i64 P):=hP;have I:w.drew.heap[H]? =some (.chan F E false s r false):=a0;obtain ⟨W,hW⟩:∃W,w.drew=W:=⟨_,rfl⟩;rw [hW] at b1 b0 I hk;show cZ _ _ _ _ _ _ 8 #[false,false,false,false,false,false,false,false] _ w.drew;rw [hW];clear hc hP a0 hW;obtain ⟨f,D⟩:∃f,bH (aV Tryz.f129.body)=f:=⟨_,rfl⟩;have R:∀l x,Region.ready .any (bH (aV Tryz.f129.body)) l=x→Region.ready .any f l=x:=fun l x h=>by rw [←D];exact h
 have a9:cZ Tryz.prog Q (base 129) k p f 0 #[true,true,true,true,true,true,true,true] ⟨#[(.pointer (some ⟨d,0,none⟩)),q,t,u,y,(.pointer (some ⟨o,0,none⟩)),z,A,B,C,g,j,(.pointer (some ⟨d,0,none⟩)),(.pointer (some ⟨d,0,none⟩)),(.pointer (some ⟨d,9,none⟩)),(.chan (some H)),(.pointer (some ⟨o,0,none⟩)),(.int .i64 P),(.agg #[.int .i64 P,.bool false]),m],[]⟩ (W.setChan H F (E.push (.agg #[.int .i64 P,.bool false])) false (s+1) r false):=
  ⟨R _ _ (by kernel_rfl),LoneTo.goes (n:=1) (by s_c stepG_region_end;s_stop;exact hk)⟩
 have Z:cZ Tryz.prog Q (base 129) k p f 1 #[true,true,true,true,true,true,true,false] ⟨#[(.pointer (some ⟨d,0,none⟩)),q,t,u,y,(.pointer (some ⟨o,0,none⟩)),z,A,B,C,g,j,(.pointer (some ⟨d,0,none⟩)),(.pointer (some ⟨d,0,none⟩)),(.pointer (some ⟨d,9,none⟩)),(.chan (some H)),(.pointer (some ⟨o,0,none⟩)),(.int .i64 P),(.agg #[.int .i64 P,.bool false]),m],[]⟩ W:=by
  refine ⟨fun h=>(by rw [R _ [7] (by kernel_rfl)] at h;cases h),fun i b e a=>?_⟩;rw [R _ [7] (by kernel_rfl),List.mem_singleton] at b;subst b;subst D;simp only [bH,aV,Tryz.f129] at a ⊢;refine LoneTo.step (step_lone_send_room (c:=H) (cap:=F) (buf:=E) (s:=s) (r:=r) (tm:=false) (v:= .agg #[.int .i64 P,.bool false]) (stepG_comm (cases:=#[scase H (.agg #[.int .i64 P,.bool false]) (.tuple #[])]) (blocking:=true) (shape:= .send) (w':=W) rfl rfl (by decide) (by simp [execOp,scase,Act.eval])) I J) ?_;rw [Frame.finish_at];exact a _ _ a9
 have V:cZ Tryz.prog Q (base 129) k p f 2 #[true,true,true,false,true,true,true,false] ⟨#[(.pointer (some ⟨d,0,none⟩)),q,t,u,y,(.pointer (some ⟨o,0,none⟩)),z,A,B,C,g,j,(.pointer (some ⟨d,0,none⟩)),(.pointer (some ⟨d,0,none⟩)),(.pointer (some ⟨d,9,none⟩)),u15,(.pointer (some ⟨o,0,none⟩)),(.int .i64 P),(.agg #[.int .i64 P,.bool false]),m],[]⟩ W:=by
  refine ⟨fun h=>(by rw [R _ [3] (by kernel_rfl)] at h;cases h),fun i b e a=>?_⟩;rw [R _ [3] (by kernel_rfl)] at b;subst D;simp only [bH,aV,Tryz.f129] at a ⊢;rw [List.mem_singleton] at b;subst b;exact LoneTo.goes (n:=1) (by s_op;s_stop;exact a _ _ Z)
 have Y:cZ Tryz.prog Q (base 129) k p f 2 #[true,true,true,true,true,true,false,false] ⟨#[(.pointer (some ⟨d,0,none⟩)),q,t,u,y,(.pointer (some ⟨o,0,none⟩)),z,A,B,C,g,j,(.pointer (some ⟨d,0,none⟩)),(.pointer (some ⟨d,0,none⟩)),(.pointer (some ⟨d,9,none⟩)),(.chan (some H)),(.pointer (some ⟨o,0,none⟩)),(.int .i64 P),u18,m],[]⟩ W:=by
  refine ⟨fun h=>(by rw [R _ [6] (by kernel_rfl)] at h;cases h),fun i b e a=>?_⟩;rw [R _ [6] (by kernel_rfl)] at b;subst D;simp only [bH,aV,Tryz.f129] at a ⊢;rw [List.mem_singleton] at b;subst b;exact LoneTo.goes (n:=1) (by s_op;s_stop;exact a _ _ Z)
 have S:cZ Tryz.prog Q (base 129) k p f 3 #[true,true,false,false,true,true,true,false] ⟨#[(.pointer (some ⟨d,0,none⟩)),q,t,u,y,(.pointer (some ⟨o,0,none⟩)),z,A,B,C,g,j,(.pointer (some ⟨d,0,none⟩)),(.pointer (some ⟨d,0,none⟩)),u14,u15,(.pointer (some ⟨o,0,none⟩)),(.int .i64 P),(.agg #[.int .i64 P,.bool false]),m],[]⟩ W:=by
  refine ⟨fun h=>(by rw [R _ [2] (by kernel_rfl)] at h;cases h),fun i b e a=>?_⟩;rw [R _ [2] (by kernel_rfl)] at b;subst D;simp only [bH,aV,Tryz.f129] at a ⊢;rw [List.mem_singleton] at b;subst b;exact LoneTo.goes (n:=1) (by s_op;s_stop;exact a _ _ V)
 have U:cZ Tryz.prog Q (base 129) k p f 3 #[true,true,true,false,true,true,false,false] ⟨#[(.pointer (some ⟨d,0,none⟩)),q,t,u,y,(.pointer (some ⟨o,0,none⟩)),z,A,B,C,g,j,(.pointer (some ⟨d,0,none⟩)),(.pointer (some ⟨d,0,none⟩)),(.pointer (some ⟨d,9,none⟩)),u15,(.pointer (some ⟨o,0,none⟩)),(.int .i64 P),u18,m],[]⟩ W:=by
  refine ⟨fun h=>(by rw [R _ [3,6] (by kernel_rfl)] at h;cases h),fun i b e a=>?_⟩;rw [R _ [3,6] (by kernel_rfl)] at b;subst D;simp only [bH,aV,Tryz.f129] at a ⊢;simp only [List.mem_cons,List.not_mem_nil,or_false] at b
  rcases b with rfl | rfl
  ·exact LoneTo.goes (n:=1) (by s_op;s_stop;exact a _ _ Y)
  ·exact LoneTo.goes (n:=1) (by s_op;s_stop;exact a _ _ V)
 have X:cZ Tryz.prog Q (base 129) k p f 3 #[true,true,true,true,true,false,false,false] ⟨#[(.pointer (some ⟨d,0,none⟩)),q,t,u,y,(.pointer (some ⟨o,0,none⟩)),z,A,B,C,g,j,(.pointer (some ⟨d,0,none⟩)),(.pointer (some ⟨d,0,none⟩)),(.pointer (some ⟨d,9,none⟩)),(.chan (some H)),(.pointer (some ⟨o,0,none⟩)),u17,u18,m],[]⟩ W:=by
  refine ⟨fun h=>(by rw [R _ [5] (by kernel_rfl)] at h;cases h),fun i b e a=>?_⟩;rw [R _ [5] (by kernel_rfl)] at b;subst D;simp only [bH,aV,Tryz.f129] at a ⊢;rw [List.mem_singleton] at b;subst b;exact LoneTo.goes (n:=1) (by s_op;s_stop;exact a _ _ Y)
 have M:cZ Tryz.prog Q (base 129) k p f 4 #[true,false,false,false,true,true,true,false] ⟨#[(.pointer (some ⟨d,0,none⟩)),q,t,u,y,(.pointer (some ⟨o,0,none⟩)),z,A,B,C,g,j,(.pointer (some ⟨d,0,none⟩)),u13,u14,u15,(.pointer (some ⟨o,0,none⟩)),(.int .i64 P),(.agg #[.int .i64 P,.bool false]),m],[]⟩ W:=by
  refine ⟨fun h=>(by rw [R _ [1] (by kernel_rfl)] at h;cases h),fun i b e a=>?_⟩;rw [R _ [1] (by kernel_rfl)] at b;subst D;simp only [bH,aV,Tryz.f129] at a ⊢;rw [List.mem_singleton] at b;subst b;exact LoneTo.goes (n:=1) (by s_op;s_stop;exact a _ _ S)
 have O:cZ Tryz.prog Q (base 129) k p f 4 #[true,true,false,false,true,true,false,false] ⟨#[(.pointer (some ⟨d,0,none⟩)),q,t,u,y,(.pointer (some ⟨o,0,none⟩)),z,A,B,C,g,j,(.pointer (some ⟨d,0,none⟩)),(.pointer (some ⟨d,0,none⟩)),u14,u15,(.pointer (some ⟨o,0,none⟩)),(.int .i64 P),u18,m],[]⟩ W:=by
  refine ⟨fun h=>(by rw [R _ [2,6] (by kernel_rfl)] at h;cases h),fun i b e a=>?_⟩;rw [R _ [2,6] (by kernel_rfl)] at b;subst D;simp only [bH,aV,Tryz.f129] at a ⊢;simp only [List.mem_cons,List.not_mem_nil,or_false] at b
  rcases b with rfl | rfl
  ·exact LoneTo.goes (n:=1) (by s_op;s_stop;exact a _ _ U)
  ·exact LoneTo.goes (n:=1) (by s_op;s_stop;exact a _ _ S)
 have T:cZ Tryz.prog Q (base 129) k p f 4 #[true,true,true,false,true,false,false,false] ⟨#[(.pointer (some ⟨d,0,none⟩)),q,t,u,y,(.pointer (some ⟨o,0,none⟩)),z,A,B,C,g,j,(.pointer (some ⟨d,0,none⟩)),(.pointer (some ⟨d,0,none⟩)),(.pointer (some ⟨d,9,none⟩)),u15,(.pointer (some ⟨o,0,none⟩)),u17,u18,m],[]⟩ W:=by
  refine ⟨fun h=>(by rw [R _ [3,5] (by kernel_rfl)] at h;cases h),fun i b e a=>?_⟩;rw [R _ [3,5] (by kernel_rfl)] at b;subst D;simp only [bH,aV,Tryz.f129] at a ⊢;simp only [List.mem_cons,List.not_mem_nil,or_false] at b
  rcases b with rfl | rfl
  ·exact LoneTo.goes (n:=1) (by s_op;s_stop;exact a _ _ X)
  ·exact LoneTo.goes (n:=1) (by s_op;s_stop;exact a _ _ U)
 have a8:cZ Tryz.prog Q (base 129) k p f 4 #[true,true,true,true,false,false,false,false] ⟨#[(.pointer (some ⟨d,0,none⟩)),q,t,u,y,(.pointer (some ⟨o,0,none⟩)),z,A,B,C,g,j,(.pointer (some ⟨d,0,none⟩)),(.pointer (some ⟨d,0,none⟩)),(.pointer (some ⟨d,9,none⟩)),(.chan (some H)),u16,u17,u18,m],[]⟩ W:=by
  refine ⟨fun h=>(by rw [R _ [4] (by kernel_rfl)] at h;cases h),fun i b e a=>?_⟩;rw [R _ [4] (by kernel_rfl)] at b;subst D;simp only [bH,aV,Tryz.f129] at a ⊢;rw [List.mem_singleton] at b;subst b;exact LoneTo.goes (n:=1) (by s_op;s_stop;exact a _ _ X)
 have a4:cZ Tryz.prog Q (base 129) k p f 5 #[false,false,false,false,true,true,true,false] ⟨#[(.pointer (some ⟨d,0,none⟩)),q,t,u,y,(.pointer (some ⟨o,0,none⟩)),z,A,B,C,g,j,u12,u13,u14,u15,(.pointer (some ⟨o,0,none⟩)),(.int .i64 P),(.agg #[.int .i64 P,.bool false]),m],[]⟩ W:=by
  refine ⟨fun h=>(by rw [R _ [0] (by kernel_rfl)] at h;cases h),fun i b e a=>?_⟩;rw [R _ [0] (by kernel_rfl)] at b;subst D;simp only [bH,aV,Tryz.f129] at a ⊢;rw [List.mem_singleton] at b;subst b;exact LoneTo.goes (n:=1) (by s_op;s_stop;exact a _ _ M)
 have L:cZ Tryz.prog Q (base 129) k p f 5 #[true,false,false,false,true,true,false,false] ⟨#[(.pointer (some ⟨d,0,none⟩)),q,t,u,y,(.pointer (some ⟨o,0,none⟩)),z,A,B,C,g,j,(.pointer (some ⟨d,0,none⟩)),u13,u14,u15,(.pointer (some ⟨o,0,none⟩)),(.int .i64 P),u18,m],[]⟩ W:=by
  refine ⟨fun h=>(by rw [R _ [1,6] (by kernel_rfl)] at h;cases h),fun i b e a=>?_⟩;rw [R _ [1,6] (by kernel_rfl)] at b;subst D;simp only [bH,aV,Tryz.f129] at a ⊢;simp only [List.mem_cons,List.not_mem_nil,or_false] at b
  rcases b with rfl | rfl
  ·exact LoneTo.goes (n:=1) (by s_op;s_stop;exact a _ _ O)
  ·exact LoneTo.goes (n:=1) (by s_op;s_stop;exact a _ _ M)
 have N:cZ Tryz.prog Q (base 129) k p f 5 #[true,true,false,false,true,false,false,false] ⟨#[(.pointer (some ⟨d,0,none⟩)),q,t,u,y,(.pointer (some ⟨o,0,none⟩)),z,A,B,C,g,j,(.pointer (some ⟨d,0,none⟩)),(.pointer (some ⟨d,0,none⟩)),u14,u15,(.pointer (some ⟨o,0,none⟩)),u17,u18,m],[]⟩ W:=by
  refine ⟨fun h=>(by rw [R _ [2,5] (by kernel_rfl)] at h;cases h),fun i b e a=>?_⟩;rw [R _ [2,5] (by kernel_rfl)] at b;subst D;simp only [bH,aV,Tryz.f129] at a ⊢;simp only [List.mem_cons,List.not_mem_nil,or_false] at b
  rcases b with rfl | rfl
  ·exact LoneTo.goes (n:=1) (by s_op;s_stop;exact a _ _ T)
  ·exact LoneTo.goes (n:=1) (by s_op;s_stop;exact a _ _ O)
 have a7:cZ Tryz.prog Q (base 129) k p f 5 #[true,true,true,false,false,false,false,false] ⟨#[(.pointer (some ⟨d,0,none⟩)),q,t,u,y,(.pointer (some ⟨o,0,none⟩)),z,A,B,C,g,j,(.pointer (some ⟨d,0,none⟩)),(.pointer (some ⟨d,0,none⟩)),(.pointer (some ⟨d,9,none⟩)),u15,u16,u17,u18,m],[]⟩ W:=by
  refine ⟨fun h=>(by rw [R _ [3,4] (by kernel_rfl)] at h;cases h),fun i b e a=>?_⟩;rw [R _ [3,4] (by kernel_rfl)] at b;subst D;simp only [bH,aV,Tryz.f129] at a ⊢;simp only [List.mem_cons,List.not_mem_nil,or_false] at b
  rcases b with rfl | rfl
  ·exact LoneTo.goes (n:=1) (by s_op;s_stop;exact a _ _ a8)
  ·exact LoneTo.goes (n:=1) (by s_op;s_stop;exact a _ _ T)
 have a3:cZ Tryz.prog Q (base 129) k p f 6 #[false,false,false,false,true,true,false,false] ⟨#[(.pointer (some ⟨d,0,none⟩)),q,t,u,y,(.pointer (some ⟨o,0,none⟩)),z,A,B,C,g,j,u12,u13,u14,u15,(.pointer (some ⟨o,0,none⟩)),(.int .i64 P),u18,m],[]⟩ W:=by
  refine ⟨fun h=>(by rw [R _ [0,6] (by kernel_rfl)] at h;cases h),fun i b e a=>?_⟩;rw [R _ [0,6] (by kernel_rfl)] at b;subst D;simp only [bH,aV,Tryz.f129] at a ⊢;simp only [List.mem_cons,List.not_mem_nil,or_false] at b
  rcases b with rfl | rfl
  ·exact LoneTo.goes (n:=1) (by s_op;s_stop;exact a _ _ L)
  ·exact LoneTo.goes (n:=1) (by s_op;s_stop;exact a _ _ a4)
 have K:cZ Tryz.prog Q (base 129) k p f 6 #[true,false,false,false,true,false,false,false] ⟨#[(.pointer (some ⟨d,0,none⟩)),q,t,u,y,(.pointer (some ⟨o,0,none⟩)),z,A,B,C,g,j,(.pointer (some ⟨d,0,none⟩)),u13,u14,u15,(.pointer (some ⟨o,0,none⟩)),u17,u18,m],[]⟩ W:=by
  refine ⟨fun h=>(by rw [R _ [1,5] (by kernel_rfl)] at h;cases h),fun i b e a=>?_⟩;rw [R _ [1,5] (by kernel_rfl)] at b;subst D;simp only [bH,aV,Tryz.f129] at a ⊢;simp only [List.mem_cons,List.not_mem_nil,or_false] at b
  rcases b with rfl | rfl
  ·exact LoneTo.goes (n:=1) (by s_op;s_stop;exact a _ _ N)
  ·exact LoneTo.goes (n:=1) (by s_op;s_stop;exact a _ _ L)
 have a6:cZ Tryz.prog Q (base 129) k p f 6 #[true,true,false,false,false,false,false,false] ⟨#[(.pointer (some ⟨d,0,none⟩)),q,t,u,y,(.pointer (some ⟨o,0,none⟩)),z,A,B,C,g,j,(.pointer (some ⟨d,0,none⟩)),(.pointer (some ⟨d,0,none⟩)),u14,u15,u16,u17,u18,m],[]⟩ W:=by
  refine ⟨fun h=>(by rw [R _ [2,4] (by kernel_rfl)] at h;cases h),fun i b e a=>?_⟩;rw [R _ [2,4] (by kernel_rfl)] at b;subst D;simp only [bH,aV,Tryz.f129] at a ⊢;simp only [List.mem_cons,List.not_mem_nil,or_false] at b
  rcases b with rfl | rfl
  ·exact LoneTo.goes (n:=1) (by s_op;s_stop;exact a _ _ a7)
  ·exact LoneTo.goes (n:=1) (by s_op;s_stop;exact a _ _ N)
 have a2:cZ Tryz.prog Q (base 129) k p f 7 #[false,false,false,false,true,false,false,false] ⟨#[(.pointer (some ⟨d,0,none⟩)),q,t,u,y,(.pointer (some ⟨o,0,none⟩)),z,A,B,C,g,j,u12,u13,u14,u15,(.pointer (some ⟨o,0,none⟩)),u17,u18,m],[]⟩ W:=by
  refine ⟨fun h=>(by rw [R _ [0,5] (by kernel_rfl)] at h;cases h),fun i b e a=>?_⟩;rw [R _ [0,5] (by kernel_rfl)] at b;subst D;simp only [bH,aV,Tryz.f129] at a ⊢;simp only [List.mem_cons,List.not_mem_nil,or_false] at b
  rcases b with rfl | rfl
  ·exact LoneTo.goes (n:=1) (by s_op;s_stop;exact a _ _ K)
  ·exact LoneTo.goes (n:=1) (by s_op;s_stop;exact a _ _ a3)
 have a5:cZ Tryz.prog Q (base 129) k p f 7 #[true,false,false,false,false,false,false,false] ⟨#[(.pointer (some ⟨d,0,none⟩)),q,t,u,y,(.pointer (some ⟨o,0,none⟩)),z,A,B,C,g,j,(.pointer (some ⟨d,0,none⟩)),u13,u14,u15,u16,u17,u18,m],[]⟩ W:=by
  refine ⟨fun h=>(by rw [R _ [1,4] (by kernel_rfl)] at h;cases h),fun i b e a=>?_⟩;rw [R _ [1,4] (by kernel_rfl)] at b;subst D;simp only [bH,aV,Tryz.f129] at a ⊢;simp only [List.mem_cons,List.not_mem_nil,or_false] at b
  rcases b with rfl | rfl
  ·exact LoneTo.goes (n:=1) (by s_op;s_stop;exact a _ _ a6)
  ·exact LoneTo.goes (n:=1) (by s_op;s_stop;exact a _ _ K)
 have a1:cZ Tryz.prog Q (base 129) k p f 8 #[false,false,false,false,false,false,false,false] ⟨#[(.pointer (some ⟨d,0,none⟩)),q,t,u,y,(.pointer (some ⟨o,0,none⟩)),z,A,B,C,g,j,u12,u13,u14,u15,u16,u17,u18,m],[]⟩ W:=by
  refine ⟨fun h=>(by rw [R _ [0,4] (by kernel_rfl)] at h;cases h),fun i b e a=>?_⟩;rw [R _ [0,4] (by kernel_rfl)] at b;subst D;simp only [bH,aV,Tryz.f129] at a ⊢;simp only [List.mem_cons,List.not_mem_nil,or_false] at b
  rcases b with rfl | rfl
  ·exact LoneTo.goes (n:=1) (by s_op;s_stop;exact a _ _ a5)
  ·exact LoneTo.goes (n:=1) (by s_op;s_stop;exact a _ _ a2)
 subst D;exact a1
theorem EZ (Q:Goroutine→World→Prop) (k:List Item) (p:List Frame) (d H o F s r id:Nat) (E:Array Value) (P:Int) (w:World) (hc:w.cell? ⟨d,9,none⟩=some (.chan (some H))) (hP:w.cell? ⟨o,0,none⟩=some (.int .i64 P)) (a0:w.heap[H]? =some (.chan F E false s r false)) (J:E.size < F) (q t u y z A B C g j u12 u13 u14 u15 u16 u17 u18 m:Value)
  (hk:LoneTo Tryz.prog Q (G ((base 131).at ⟨#[(.pointer (some ⟨d,0,none⟩)),q,t,u,y,(.pointer (some ⟨o,0,none⟩)),z,A,B,C,g,j,(.pointer (some ⟨d,0,none⟩)),(.pointer (some ⟨d,0,none⟩)),(.pointer (some ⟨d,9,none⟩)),(.chan (some H)),(.pointer (some ⟨o,0,none⟩)),(.int .i64 P),(.agg #[.int .i64 P,.bool true]),m],[]⟩ k) p) (w.drew.setChan H F (E.push (.agg #[.int .i64 P,.bool true])) false (s+1) r false)):
  LoneTo Tryz.prog Q (G ((base 131).at ⟨#[(.pointer (some ⟨d,0,none⟩)),q,t,u,y,(.pointer (some ⟨o,0,none⟩)),z,A,B,C,g,j,u12,u13,u14,u15,u16,u17,u18,m],[]⟩ (.code (.region id (bH (aV Tryz.f131.body)) true)::k)) p) w:=by
 refine mA (by kernel_rfl) ?_;have b1:w.drew.cell? ⟨d,9,none⟩=some (.chan (some H)):=hc;have b0:w.drew.cell? ⟨o,0,none⟩=some (.int .i64 P):=hP;have I:w.drew.heap[H]? =some (.chan F E false s r false):=a0;obtain ⟨W,hW⟩:∃W,w.drew=W:=⟨_,rfl⟩;rw [hW] at b1 b0 I hk;show cZ _ _ _ _ _ _ 8 #[false,false,false,false,false,false,false,false] _ w.drew;rw [hW];clear hc hP a0 hW;obtain ⟨f,D⟩:∃f,bH (aV Tryz.f131.body)=f:=⟨_,rfl⟩;have R:∀l x,Region.ready .any (bH (aV Tryz.f131.body)) l=x→Region.ready .any f l=x:=fun l x h=>by rw [←D];exact h
 have a9:cZ Tryz.prog Q (base 131) k p f 0 #[true,true,true,true,true,true,true,true] ⟨#[(.pointer (some ⟨d,0,none⟩)),q,t,u,y,(.pointer (some ⟨o,0,none⟩)),z,A,B,C,g,j,(.pointer (some ⟨d,0,none⟩)),(.pointer (some ⟨d,0,none⟩)),(.pointer (some ⟨d,9,none⟩)),(.chan (some H)),(.pointer (some ⟨o,0,none⟩)),(.int .i64 P),(.agg #[.int .i64 P,.bool true]),m],[]⟩ (W.setChan H F (E.push (.agg #[.int .i64 P,.bool true])) false (s+1) r false):=
  ⟨R _ _ (by kernel_rfl),LoneTo.goes (n:=1) (by s_c stepG_region_end;s_stop;exact hk)⟩
 have Z:cZ Tryz.prog Q (base 131) k p f 1 #[true,true,true,true,true,true,true,false] ⟨#[(.pointer (some ⟨d,0,none⟩)),q,t,u,y,(.pointer (some ⟨o,0,none⟩)),z,A,B,C,g,j,(.pointer (some ⟨d,0,none⟩)),(.pointer (some ⟨d,0,none⟩)),(.pointer (some ⟨d,9,none⟩)),(.chan (some H)),(.pointer (some ⟨o,0,none⟩)),(.int .i64 P),(.agg #[.int .i64 P,.bool true]),m],[]⟩ W:=by
  refine ⟨fun h=>(by rw [R _ [7] (by kernel_rfl)] at h;cases h),fun i b e a=>?_⟩;rw [R _ [7] (by kernel_rfl),List.mem_singleton] at b;subst b;subst D;simp only [bH,aV,Tryz.f131] at a ⊢;refine LoneTo.step (step_lone_send_room (c:=H) (cap:=F) (buf:=E) (s:=s) (r:=r) (tm:=false) (v:= .agg #[.int .i64 P,.bool true]) (stepG_comm (cases:=#[scase H (.agg #[.int .i64 P,.bool true]) (.tuple #[])]) (blocking:=true) (shape:= .send) (w':=W) rfl rfl (by decide) (by simp [execOp,scase,Act.eval])) I J) ?_;rw [Frame.finish_at];exact a _ _ a9
 have V:cZ Tryz.prog Q (base 131) k p f 2 #[true,true,true,false,true,true,true,false] ⟨#[(.pointer (some ⟨d,0,none⟩)),q,t,u,y,(.pointer (some ⟨o,0,none⟩)),z,A,B,C,g,j,(.pointer (some ⟨d,0,none⟩)),(.pointer (some ⟨d,0,none⟩)),(.pointer (some ⟨d,9,none⟩)),u15,(.pointer (some ⟨o,0,none⟩)),(.int .i64 P),(.agg #[.int .i64 P,.bool true]),m],[]⟩ W:=by
  refine ⟨fun h=>(by rw [R _ [3] (by kernel_rfl)] at h;cases h),fun i b e a=>?_⟩;rw [R _ [3] (by kernel_rfl)] at b;subst D;simp only [bH,aV,Tryz.f131] at a ⊢;rw [List.mem_singleton] at b;subst b;exact LoneTo.goes (n:=1) (by s_op;s_stop;exact a _ _ Z)
 have Y:cZ Tryz.prog Q (base 131) k p f 2 #[true,true,true,true,true,true,false,false] ⟨#[(.pointer (some ⟨d,0,none⟩)),q,t,u,y,(.pointer (some ⟨o,0,none⟩)),z,A,B,C,g,j,(.pointer (some ⟨d,0,none⟩)),(.pointer (some ⟨d,0,none⟩)),(.pointer (some ⟨d,9,none⟩)),(.chan (some H)),(.pointer (some ⟨o,0,none⟩)),(.int .i64 P),u18,m],[]⟩ W:=by
  refine ⟨fun h=>(by rw [R _ [6] (by kernel_rfl)] at h;cases h),fun i b e a=>?_⟩;rw [R _ [6] (by kernel_rfl)] at b;subst D;simp only [bH,aV,Tryz.f131] at a ⊢;rw [List.mem_singleton] at b;subst b;exact LoneTo.goes (n:=1) (by s_op;s_stop;exact a _ _ Z)
 have S:cZ Tryz.prog Q (base 131) k p f 3 #[true,true,false,false,true,true,true,false] ⟨#[(.pointer (some ⟨d,0,none⟩)),q,t,u,y,(.pointer (some ⟨o,0,none⟩)),z,A,B,C,g,j,(.pointer (some ⟨d,0,none⟩)),(.pointer (some ⟨d,0,none⟩)),u14,u15,(.pointer (some ⟨o,0,none⟩)),(.int .i64 P),(.agg #[.int .i64 P,.bool true]),m],[]⟩ W:=by
  refine ⟨fun h=>(by rw [R _ [2] (by kernel_rfl)] at h;cases h),fun i b e a=>?_⟩;rw [R _ [2] (by kernel_rfl)] at b;subst D;simp only [bH,aV,Tryz.f131] at a ⊢;rw [List.mem_singleton] at b;subst b;exact LoneTo.goes (n:=1) (by s_op;s_stop;exact a _ _ V)
 have U:cZ Tryz.prog Q (base 131) k p f 3 #[true,true,true,false,true,true,false,false] ⟨#[(.pointer (some ⟨d,0,none⟩)),q,t,u,y,(.pointer (some ⟨o,0,none⟩)),z,A,B,C,g,j,(.pointer (some ⟨d,0,none⟩)),(.pointer (some ⟨d,0,none⟩)),(.pointer (some ⟨d,9,none⟩)),u15,(.pointer (some ⟨o,0,none⟩)),(.int .i64 P),u18,m],[]⟩ W:=by
  refine ⟨fun h=>(by rw [R _ [3,6] (by kernel_rfl)] at h;cases h),fun i b e a=>?_⟩;rw [R _ [3,6] (by kernel_rfl)] at b;subst D;simp only [bH,aV,Tryz.f131] at a ⊢;simp only [List.mem_cons,List.not_mem_nil,or_false] at b
  rcases b with rfl | rfl
  ·exact LoneTo.goes (n:=1) (by s_op;s_stop;exact a _ _ Y)
  ·exact LoneTo.goes (n:=1) (by s_op;s_stop;exact a _ _ V)
 have X:cZ Tryz.prog Q (base 131) k p f 3 #[true,true,true,true,true,false,false,false] ⟨#[(.pointer (some ⟨d,0,none⟩)),q,t,u,y,(.pointer (some ⟨o,0,none⟩)),z,A,B,C,g,j,(.pointer (some ⟨d,0,none⟩)),(.pointer (some ⟨d,0,none⟩)),(.pointer (some ⟨d,9,none⟩)),(.chan (some H)),(.pointer (some ⟨o,0,none⟩)),u17,u18,m],[]⟩ W:=by
  refine ⟨fun h=>(by rw [R _ [5] (by kernel_rfl)] at h;cases h),fun i b e a=>?_⟩;rw [R _ [5] (by kernel_rfl)] at b;subst D;simp only [bH,aV,Tryz.f131] at a ⊢;rw [List.mem_singleton] at b;subst b;exact LoneTo.goes (n:=1) (by s_op;s_stop;exact a _ _ Y)
 have M:cZ Tryz.prog Q (base 131) k p f 4 #[true,false,false,false,true,true,true,false] ⟨#[(.pointer (some ⟨d,0,none⟩)),q,t,u,y,(.pointer (some ⟨o,0,none⟩)),z,A,B,C,g,j,(.pointer (some ⟨d,0,none⟩)),u13,u14,u15,(.pointer (some ⟨o,0,none⟩)),(.int .i64 P),(.agg #[.int .i64 P,.bool true]),m],[]⟩ W:=by
  refine ⟨fun h=>(by rw [R _ [1] (by kernel_rfl)] at h;cases h),fun i b e a=>?_⟩;rw [R _ [1] (by kernel_rfl)] at b;subst D;simp only [bH,aV,Tryz.f131] at a ⊢;rw [List.mem_singleton] at b;subst b;exact LoneTo.goes (n:=1) (by s_op;s_stop;exact a _ _ S)
 have O:cZ Tryz.prog Q (base 131) k p f 4 #[true,true,false,false,true,true,false,false] ⟨#[(.pointer (some ⟨d,0,none⟩)),q,t,u,y,(.pointer (some ⟨o,0,none⟩)),z,A,B,C,g,j,(.pointer (some ⟨d,0,none⟩)),(.pointer (some ⟨d,0,none⟩)),u14,u15,(.pointer (some ⟨o,0,none⟩)),(.int .i64 P),u18,m],[]⟩ W:=by
  refine ⟨fun h=>(by rw [R _ [2,6] (by kernel_rfl)] at h;cases h),fun i b e a=>?_⟩;rw [R _ [2,6] (by kernel_rfl)] at b;subst D;simp only [bH,aV,Tryz.f131] at a ⊢;simp only [List.mem_cons,List.not_mem_nil,or_false] at b
  rcases b with rfl | rfl
  ·exact LoneTo.goes (n:=1) (by s_op;s_stop;exact a _ _ U)
  ·exact LoneTo.goes (n:=1) (by s_op;s_stop;exact a _ _ S)
 have T:cZ Tryz.prog Q (base 131) k p f 4 #[true,true,true,false,true,false,false,false] ⟨#[(.pointer (some ⟨d,0,none⟩)),q,t,u,y,(.pointer (some ⟨o,0,none⟩)),z,A,B,C,g,j,(.pointer (some ⟨d,0,none⟩)),(.pointer (some ⟨d,0,none⟩)),(.pointer (some ⟨d,9,none⟩)),u15,(.pointer (some ⟨o,0,none⟩)),u17,u18,m],[]⟩ W:=by
  refine ⟨fun h=>(by rw [R _ [3,5] (by kernel_rfl)] at h;cases h),fun i b e a=>?_⟩;rw [R _ [3,5] (by kernel_rfl)] at b;subst D;simp only [bH,aV,Tryz.f131] at a ⊢;simp only [List.mem_cons,List.not_mem_nil,or_false] at b
  rcases b with rfl | rfl
  ·exact LoneTo.goes (n:=1) (by s_op;s_stop;exact a _ _ X)
  ·exact LoneTo.goes (n:=1) (by s_op;s_stop;exact a _ _ U)
 have a8:cZ Tryz.prog Q (base 131) k p f 4 #[true,true,true,true,false,false,false,false] ⟨#[(.pointer (some ⟨d,0,none⟩)),q,t,u,y,(.pointer (some ⟨o,0,none⟩)),z,A,B,C,g,j,(.pointer (some ⟨d,0,none⟩)),(.pointer (some ⟨d,0,none⟩)),(.pointer (some ⟨d,9,none⟩)),(.chan (some H)),u16,u17,u18,m],[]⟩ W:=by
  refine ⟨fun h=>(by rw [R _ [4] (by kernel_rfl)] at h;cases h),fun i b e a=>?_⟩;rw [R _ [4] (by kernel_rfl)] at b;subst D;simp only [bH,aV,Tryz.f131] at a ⊢;rw [List.mem_singleton] at b;subst b;exact LoneTo.goes (n:=1) (by s_op;s_stop;exact a _ _ X)
 have a4:cZ Tryz.prog Q (base 131) k p f 5 #[false,false,false,false,true,true,true,false] ⟨#[(.pointer (some ⟨d,0,none⟩)),q,t,u,y,(.pointer (some ⟨o,0,none⟩)),z,A,B,C,g,j,u12,u13,u14,u15,(.pointer (some ⟨o,0,none⟩)),(.int .i64 P),(.agg #[.int .i64 P,.bool true]),m],[]⟩ W:=by
  refine ⟨fun h=>(by rw [R _ [0] (by kernel_rfl)] at h;cases h),fun i b e a=>?_⟩;rw [R _ [0] (by kernel_rfl)] at b;subst D;simp only [bH,aV,Tryz.f131] at a ⊢;rw [List.mem_singleton] at b;subst b;exact LoneTo.goes (n:=1) (by s_op;s_stop;exact a _ _ M)
 have L:cZ Tryz.prog Q (base 131) k p f 5 #[true,false,false,false,true,true,false,false] ⟨#[(.pointer (some ⟨d,0,none⟩)),q,t,u,y,(.pointer (some ⟨o,0,none⟩)),z,A,B,C,g,j,(.pointer (some ⟨d,0,none⟩)),u13,u14,u15,(.pointer (some ⟨o,0,none⟩)),(.int .i64 P),u18,m],[]⟩ W:=by
  refine ⟨fun h=>(by rw [R _ [1,6] (by kernel_rfl)] at h;cases h),fun i b e a=>?_⟩;rw [R _ [1,6] (by kernel_rfl)] at b;subst D;simp only [bH,aV,Tryz.f131] at a ⊢;simp only [List.mem_cons,List.not_mem_nil,or_false] at b
  rcases b with rfl | rfl
  ·exact LoneTo.goes (n:=1) (by s_op;s_stop;exact a _ _ O)
  ·exact LoneTo.goes (n:=1) (by s_op;s_stop;exact a _ _ M)
 have N:cZ Tryz.prog Q (base 131) k p f 5 #[true,true,false,false,true,false,false,false] ⟨#[(.pointer (some ⟨d,0,none⟩)),q,t,u,y,(.pointer (some ⟨o,0,none⟩)),z,A,B,C,g,j,(.pointer (some ⟨d,0,none⟩)),(.pointer (some ⟨d,0,none⟩)),u14,u15,(.pointer (some ⟨o,0,none⟩)),u17,u18,m],[]⟩ W:=by
  refine ⟨fun h=>(by rw [R _ [2,5] (by kernel_rfl)] at h;cases h),fun i b e a=>?_⟩;rw [R _ [2,5] (by kernel_rfl)] at b;subst D;simp only [bH,aV,Tryz.f131] at a ⊢;simp only [List.mem_cons,List.not_mem_nil,or_false] at b
  rcases b with rfl | rfl
  ·exact LoneTo.goes (n:=1) (by s_op;s_stop;exact a _ _ T)
  ·exact LoneTo.goes (n:=1) (by s_op;s_stop;exact a _ _ O)
 have a7:cZ Tryz.prog Q (base 131) k p f 5 #[true,true,true,false,false,false,false,false] ⟨#[(.pointer (some ⟨d,0,none⟩)),q,t,u,y,(.pointer (some ⟨o,0,none⟩)),z,A,B,C,g,j,(.pointer (some ⟨d,0,none⟩)),(.pointer (some ⟨d,0,none⟩)),(.pointer (some ⟨d,9,none⟩)),u15,u16,u17,u18,m],[]⟩ W:=by
  refine ⟨fun h=>(by rw [R _ [3,4] (by kernel_rfl)] at h;cases h),fun i b e a=>?_⟩;rw [R _ [3,4] (by kernel_rfl)] at b;subst D;simp only [bH,aV,Tryz.f131] at a ⊢;simp only [List.mem_cons,List.not_mem_nil,or_false] at b
  rcases b with rfl | rfl
  ·exact LoneTo.goes (n:=1) (by s_op;s_stop;exact a _ _ a8)
  ·exact LoneTo.goes (n:=1) (by s_op;s_stop;exact a _ _ T)
 have a3:cZ Tryz.prog Q (base 131) k p f 6 #[false,false,false,false,true,true,false,false] ⟨#[(.pointer (some ⟨d,0,none⟩)),q,t,u,y,(.pointer (some ⟨o,0,none⟩)),z,A,B,C,g,j,u12,u13,u14,u15,(.pointer (some ⟨o,0,none⟩)),(.int .i64 P),u18,m],[]⟩ W:=by
  refine ⟨fun h=>(by rw [R _ [0,6] (by kernel_rfl)] at h;cases h),fun i b e a=>?_⟩;rw [R _ [0,6] (by kernel_rfl)] at b;subst D;simp only [bH,aV,Tryz.f131] at a ⊢;simp only [List.mem_cons,List.not_mem_nil,or_false] at b
  rcases b with rfl | rfl
  ·exact LoneTo.goes (n:=1) (by s_op;s_stop;exact a _ _ L)
  ·exact LoneTo.goes (n:=1) (by s_op;s_stop;exact a _ _ a4)
 have K:cZ Tryz.prog Q (base 131) k p f 6 #[true,false,false,false,true,false,false,false] ⟨#[(.pointer (some ⟨d,0,none⟩)),q,t,u,y,(.pointer (some ⟨o,0,none⟩)),z,A,B,C,g,j,(.pointer (some ⟨d,0,none⟩)),u13,u14,u15,(.pointer (some ⟨o,0,none⟩)),u17,u18,m],[]⟩ W:=by
  refine ⟨fun h=>(by rw [R _ [1,5] (by kernel_rfl)] at h;cases h),fun i b e a=>?_⟩;rw [R _ [1,5] (by kernel_rfl)] at b;subst D;simp only [bH,aV,Tryz.f131] at a ⊢;simp only [List.mem_cons,List.not_mem_nil,or_false] at b
  rcases b with rfl | rfl
  ·exact LoneTo.goes (n:=1) (by s_op;s_stop;exact a _ _ N)
  ·exact LoneTo.goes (n:=1) (by s_op;s_stop;exact a _ _ L)
 have a6:cZ Tryz.prog Q (base 131) k p f 6 #[true,true,false,false,false,false,false,false] ⟨#[(.pointer (some ⟨d,0,none⟩)),q,t,u,y,(.pointer (some ⟨o,0,none⟩)),z,A,B,C,g,j,(.pointer (some ⟨d,0,none⟩)),(.pointer (some ⟨d,0,none⟩)),u14,u15,u16,u17,u18,m],[]⟩ W:=by
  refine ⟨fun h=>(by rw [R _ [2,4] (by kernel_rfl)] at h;cases h),fun i b e a=>?_⟩;rw [R _ [2,4] (by kernel_rfl)] at b;subst D;simp only [bH,aV,Tryz.f131] at a ⊢;simp only [List.mem_cons,List.not_mem_nil,or_false] at b
  rcases b with rfl | rfl
  ·exact LoneTo.goes (n:=1) (by s_op;s_stop;exact a _ _ a7)
  ·exact LoneTo.goes (n:=1) (by s_op;s_stop;exact a _ _ N)
 have a2:cZ Tryz.prog Q (base 131) k p f 7 #[false,false,false,false,true,false,false,false] ⟨#[(.pointer (some ⟨d,0,none⟩)),q,t,u,y,(.pointer (some ⟨o,0,none⟩)),z,A,B,C,g,j,u12,u13,u14,u15,(.pointer (some ⟨o,0,none⟩)),u17,u18,m],[]⟩ W:=by
  refine ⟨fun h=>(by rw [R _ [0,5] (by kernel_rfl)] at h;cases h),fun i b e a=>?_⟩;rw [R _ [0,5] (by kernel_rfl)] at b;subst D;simp only [bH,aV,Tryz.f131] at a ⊢;simp only [List.mem_cons,List.not_mem_nil,or_false] at b
  rcases b with rfl | rfl
  ·exact LoneTo.goes (n:=1) (by s_op;s_stop;exact a _ _ K)
  ·exact LoneTo.goes (n:=1) (by s_op;s_stop;exact a _ _ a3)
 have a5:cZ Tryz.prog Q (base 131) k p f 7 #[true,false,false,false,false,false,false,false] ⟨#[(.pointer (some ⟨d,0,none⟩)),q,t,u,y,(.pointer (some ⟨o,0,none⟩)),z,A,B,C,g,j,(.pointer (some ⟨d,0,none⟩)),u13,u14,u15,u16,u17,u18,m],[]⟩ W:=by
  refine ⟨fun h=>(by rw [R _ [1,4] (by kernel_rfl)] at h;cases h),fun i b e a=>?_⟩;rw [R _ [1,4] (by kernel_rfl)] at b;subst D;simp only [bH,aV,Tryz.f131] at a ⊢;simp only [List.mem_cons,List.not_mem_nil,or_false] at b
  rcases b with rfl | rfl
  ·exact LoneTo.goes (n:=1) (by s_op;s_stop;exact a _ _ a6)
  ·exact LoneTo.goes (n:=1) (by s_op;s_stop;exact a _ _ K)
 have a1:cZ Tryz.prog Q (base 131) k p f 8 #[false,false,false,false,false,false,false,false] ⟨#[(.pointer (some ⟨d,0,none⟩)),q,t,u,y,(.pointer (some ⟨o,0,none⟩)),z,A,B,C,g,j,u12,u13,u14,u15,u16,u17,u18,m],[]⟩ W:=by
  refine ⟨fun h=>(by rw [R _ [0,4] (by kernel_rfl)] at h;cases h),fun i b e a=>?_⟩;rw [R _ [0,4] (by kernel_rfl)] at b;subst D;simp only [bH,aV,Tryz.f131] at a ⊢;simp only [List.mem_cons,List.not_mem_nil,or_false] at b
  rcases b with rfl | rfl
  ·exact LoneTo.goes (n:=1) (by s_op;s_stop;exact a _ _ a5)
  ·exact LoneTo.goes (n:=1) (by s_op;s_stop;exact a _ _ a2)
 subst D;exact a1
theorem wK:(Tryz.prog.info? 201).map (fun i=>(i.zero,i.size,i.bytes))=some (some (.agg #[.int .i64 0,.bool false]),2,16):=by kernel_rfl
theorem xk (l j i B:Nat) (b a:List UInt8) (q:Value) (L:List (Nat×List UInt8)) (w:World) (v:w.ownsRow B 162 2 q L.length (aR L)) (V:L.length≤1000):
  Calls Tryz.prog 48 #[.pointer (some ⟨l,0,none⟩),.pointer (some ⟨j,0,none⟩),.agg #[.int .i64 ((i:Int)+1),.string (bs b),q,.string (bs a)]] w fun e G=>∃x D,e= .returned (.pointer (some ⟨x,0,none⟩))∧bR G x D l j q q (.slice none 0 0) b a L.length false ⟨i,0,L,[],[]⟩∧w.heap.size≤x∧w.heap.size≤D∧Below w.heap.size w G:=by
 obtain ⟨d,f,M⟩:=aE (aF v);have A:=Lib.hid v;subst M;obtain ⟨c,g⟩:∃c:World,w.alloc (.cells #[.int .i64 ((i:Int)+1),.string (bs b),.slice d L.length f,.string (bs a)] 104)=c:=⟨_,rfl⟩;have r:Below w.heap.size w c:=by rw [←g];exact (Below.refl _ _).alloc (Nat.le_refl _) _
 have o:c.drew.heap[w.heap.size]? =some (.cells #[.int .i64 ((i:Int)+1),.string (bs b),.slice d L.length f,.string (bs a)] 104 (0,0)):=by rw [←g];exact heap_alloc_new w _
 have S:c.heap.size=w.heap.size+1:=by rw [←g];simp
 have O:c.drew.cell? ⟨w.heap.size,0,none⟩=some (.int .i64 ((i:Int)+1)):=by rw [Lib.cell_of_heap o];rfl
 have P:c.drew.cell? ⟨w.heap.size,1,none⟩=some (.string (bs b)):=by rw [Lib.cell_of_heap o];rfl
 have Q:c.drew.cell? ⟨w.heap.size,2,none⟩=some (.slice d L.length f):=by rw [Lib.cell_of_heap o];rfl
 have R:c.drew.cell? ⟨w.heap.size,3,none⟩=some (.string (bs a)):=by rw [Lib.cell_of_heap o];rfl
 have Y:c.cell? ⟨w.heap.size,0,none⟩=some (.int .i64 ((i:Int)+1)):=O;have Z:c.cell? ⟨w.heap.size,1,none⟩=some (.string (bs b)):=P;have n2:c.cell? ⟨w.heap.size,2,none⟩=some (.slice d L.length f):=Q;have n3:c.cell? ⟨w.heap.size,3,none⟩=some (.string (bs a)):=R;obtain ⟨X,u,E,F,p⟩:=info_parts wK;have N:∀W:World,(Instr.makeChan 151 (.int .i64 (L.length:Int))).run Tryz.prog W= .ok (.chan (some W.heap.size)) (W.alloc (.chan L.length #[] false 0 0 false)):=fun W=>Conc.run_makeChan (n:=L.length) Tryz.underlying151 u .i64 (by omega) (by rw [p];omega);have t:=Lib.hid g;have J:=Lib.hid r
 have z:Hid (bR ((c.alloc (.chan L.length #[] false 0 0 false)).alloc (.cells (fo l j (w.heap.size+1) (.slice d L.length f) (.slice d L.length f) (.slice none 0 0) b a false ⟨i,0,L,[],[]⟩) 153)).drew (w.heap.size+1+1) (w.heap.size+1) l j (.slice d L.length f) (.slice d L.length f) (.slice none 0 0) b a L.length false ⟨i,0,L,[],[]⟩∧Below w.heap.size w ((c.alloc (.chan L.length #[] false 0 0 false)).alloc (.cells (fo l j (w.heap.size+1) (.slice d L.length f) (.slice d L.length f) (.slice none 0 0) b a false ⟨i,0,L,[],[]⟩) 153)).drew):=Lib.hid (by
  have H:(c.alloc (.chan L.length #[] false 0 0 false)).heap.size=w.heap.size+1+1:=by simp;omega
  obtain ⟨h,m⟩:∃h:World,c.alloc (.chan L.length #[] false 0 0 false)=h:=⟨_,rfl⟩;have I:Below c.heap.size c h:=by rw [←m];exact (Below.refl _ _).alloc (Nat.le_refl _) _
  have K:h.heap[w.heap.size+1]? =some (.chan L.length #[] false 0 0 false):=by rw [←m,←S];exact heap_alloc_new c _
  rw [m] at H ⊢;have y:=(Below.refl h.heap.size h).alloc (Nat.le_refl _) (.cells (fo l j (w.heap.size+1) (.slice d L.length f) (.slice d L.length f) (.slice none 0 0) b a false ⟨i,0,L,[],[]⟩) 153);have s:Below w.heap.size w (h.alloc (.cells (fo l j (w.heap.size+1) (.slice d L.length f) (.slice d L.length f) (.slice none 0 0) b a false ⟨i,0,L,[],[]⟩) 153)).drew:=((r.trans (I.mono (by omega))).trans (y.mono (by omega))).drew;have C:=heap_alloc_new h (.cells (fo l j (w.heap.size+1) (.slice d L.length f) (.slice d L.length f) (.slice none 0 0) b a false ⟨i,0,L,[],[]⟩) 153);rw [H] at C;refine ⟨⟨C,⟨0,0,ae y K⟩,(aF A.out).below s,World.ownsRow_nil _ _ _ _,fun k e=>e,(fun k e=>by cases e),fun k e=>?_⟩,s⟩;have T:=(A.out.lt k e).2;have U:=s.size
  exact ⟨by omega,by omega,by omega⟩)
 clear o r g v;go_enter Tryz.func48,Tryz.ntmps48;go_wp2_with fail
 rw [t.out];go_region_law (fail)
 all_goals
  go_wp2_with fail
  go_ret;exact ⟨w.heap.size+1+1,w.heap.size+1,rfl,z.out.1,by omega,by omega,z.out.2⟩
def oo:ByteArray:=⟨#[13,10]⟩
def l9 (body:List UInt8):List ByteArray:=Lib.splitB oo 0 (Lib.countB (bs body) oo) (bs body)
def ky (x:ByteArray):ByteArray:=if Lib.hasPrefix x.data.toList [46] then (⟨#[46]⟩:ByteArray)++x else x
def mD (body:List UInt8):List UInt8:=Lib.join (((l9 body).map ky).map (·.data.toList)) [13,10]
theorem nG (a:ByteArray):∀(k:Nat) (s:ByteArray),∀x∈Lib.splitB a 0 k s,x.size≤s.size
 | 0,s,x,h=>by rw [Lib.splitB_zero,List.mem_singleton] at h;rw [h];exact Nat.le_refl _
 | k+1,s,x,h=>by
  unfold Lib.splitB at h
  split at h
  ·rw [List.mem_singleton] at h;rw [h];exact Nat.le_refl _
  ·rcases List.mem_cons.1 h with e | e
   ·rw [e,ByteArray.size_extract];omega
   ·have:=nG a k _ x e;rw [ByteArray.size_extract] at this;omega
theorem rP (a:List UInt8):(l9 a).length=Lib.countB (bs a) oo+1:=Lib.splitB_all oo (by decide) 0 _ _ rfl
theorem rC (a:List UInt8):Lib.countB (bs a) oo≤a.length:=by
 have:=Lib.countB_le oo (by decide) _ (bs a) (Nat.le_refl _)
 rwa [aG] at this
theorem GF (x:ByteArray):(ky x).size≤x.size+1:=by
 unfold ky
 split
 ·rw [ByteArray.size_append];show 1+x.size≤_;omega
 ·omega
theorem Jj {a:List (List UInt8)} {m:Nat} (h:∀x∈a,x.length≤m):Lib.lens a≤a.length * m:=by
 unfold Lib.lens
 induction a with
 | nil=>simp
 | cons x a ih=>
  have c:=ih (fun y b=>h y (List.mem_cons_of_mem _ b));have d:=h x (List.mem_cons_self ..);simp only [List.map_cons,List.sum_cons,List.length_cons,Nat.add_mul];omega
theorem BH (a:List UInt8) (h:a.length≤1048576):(mD a).length≤10000000000000:=by
 unfold mD
 have c:∀x∈((l9 a).map ky).map (·.data.toList),x.length≤1048577:=by
  intro x g;obtain ⟨y,i,rfl⟩:=List.mem_map.1 g;obtain ⟨z,c,rfl⟩:=List.mem_map.1 i;have f:=nG oo _ _ z c;have j:=GF z;rw [aG] at f;show (ky z).data.toList.length≤_;rw [Array.length_toList];have:(ky z).data.size=(ky z).size:=rfl;omega
 have b:(((l9 a).map ky).map (·.data.toList)).length=Lib.countB (bs a) oo+1:=by rw [List.length_map,List.length_map,rP]
 have k:=rC a;have d:=Jj c;obtain ⟨X,e⟩:∃X,((l9 a).map ky).map (·.data.toList)=X:=⟨_,rfl⟩;rw [e] at b d ⊢;rw [b] at d
 cases X with
 | nil=>simp at b
 | cons x r=>
  rw [Lib.join_length];simp only [List.length_cons] at b;have:(Lib.countB (bs a) oo+1) * 1048577≤1048577 * 1048577:=Nat.mul_le_mul_right _ (by omega);show 2 * r.length+_≤_;omega
def Bj (X:List ByteArray) (k:Nat):List ByteArray:=(X.take k).map ky++X.drop k
theorem Jo {X:List ByteArray} {k:Nat} (h:k < X.length):(Bj X k)[k]? =some X[k]:=by
 unfold Bj;rw [List.getElem?_append_right (by rw [List.length_map,List.length_take];omega),List.length_map,List.length_take,Nat.min_eq_left (Nat.le_of_lt h),Nat.sub_self,List.getElem?_drop,Nat.add_zero,List.getElem?_eq_getElem h]
theorem Bk {X:List ByteArray} {k:Nat} (h:k < X.length):Bj X (k+1)=(X.take k).map ky++(ky X[k]::X.drop (k+1)):=by
 unfold Bj;rw [List.take_succ_eq_append_getElem h,List.map_append,List.append_assoc];rfl
theorem Jp {X:List ByteArray} {k:Nat} (h:k < X.length):(Bj X k).set k (ky X[k])=Bj X (k+1):=by
 rw [Bk h];unfold Bj;rw [List.set_append_right _ _ (by rw [List.length_map,List.length_take];omega),List.length_map,List.length_take,Nat.min_eq_left (Nat.le_of_lt h),Nat.sub_self,List.drop_eq_getElem_cons h];rfl
theorem Ht {X:List ByteArray} {k:Nat} (h:k < X.length) (a:ky X[k]=X[k]):Bj X k=Bj X (k+1):=by
 rw [Bk h,a];unfold Bj;rw [List.drop_eq_getElem_cons h]
theorem Hu (X:List ByteArray):Bj X 0=X:=by simp [Bj]
theorem Jn (X:List ByteArray):Bj X X.length=X.map ky:=by simp [Bj]
def rh (l:List ByteArray):Array Value:=(l.map Value.string).toArray
theorem DN (l:List ByteArray) (k:Nat) (y:ByteArray):(rh l).setIfInBounds k (.string y)=rh (l.set k y):=by simp [rh,List.map_set]
theorem vI (l:List ByteArray) (k:Nat):(rh l)[k]? =l[k]?.map Value.string:=by simp [rh]
theorem zH (a:List UInt8) (m:Int) (w:World) (T:w.cell? ⟨0,0,none⟩=some (.int .i64 m)) (Y:a.length≤1048576):
  Calls Tryz.prog 130 #[.string (bs a)] w fun e n=>e= .returned (.string (bs (mD a)))∧Below w.heap.size w n:=by
 have M:=aG a;have s:=Lib.hid (Tryz.strings_Split (bs a) ⟨#[13,10]⟩ m w (by omega) T (by decide));have f:=rP a;have I:=rC a;have q:Hid (∀x∈l9 a,x.size≤a.length):=Lib.hid (fun x N=>by have:=nG oo _ _ x N;rwa [aG] at this);have E:=Lib.hid (BH a Y);obtain ⟨X,g⟩:∃X,l9 a=X:=⟨_,rfl⟩;have t:Lib.splitB ⟨#[13,10]⟩ 0 (Lib.countB (bs a) ⟨#[13,10]⟩) (bs a)=X:=g;have R:Lib.countB (bs a) ⟨#[13,10]⟩+1=X.length:=by rw [←g];exact f.symm
 have W:X.length≤1048577:=by rw [←g,f];omega
 have r:Hid (mD a=Lib.join ((X.map ky).map (·.data.toList)) [13,10]):=Lib.hid (by unfold mD;rw [g]);rw [g] at q;rw [t,R] at s;obtain ⟨A,b⟩:∃A:World,w.alloc (.cells (X.map Value.string).toArray 9)=A:=⟨_,rfl⟩;have O:Below w.heap.size w A:=by rw [←b];exact (Below.refl _ _).alloc (Nat.le_refl _) _
 have Q:A.heap[w.heap.size]? =some (.cells (X.map Value.string).toArray 9 (0,0)):=by rw [←b];exact heap_alloc_new w _
 have F:=Lib.hid b;have B:=Lib.hid O;have G:=Lib.hid Q;clear T g t R f I O Q b M;go_enter Tryz.func130,Tryz.ntmps130;go_wp2_with fail
 refine s.out.mono ?_;rintro e w1 ⟨rfl,rfl⟩;rw [F.out];go_wp2_with fail
 go_loopw [4,5,10] (fun _ _ i n=>∃k:Nat,k≤X.length∧i= .int .i64 k∧Hid (n.heap[w.heap.size]? =some (.cells (rh (Bj X k)) 9 (0,0)))∧Hid (Below w.heap.size w n)) (fun _ _ i _=>X.length - (intOf i).toNat)
 case atStart=>exact ⟨0,Nat.zero_le _,rfl,Lib.hid (by rw [Hu];exact G.out),B⟩
 case round=>
  obtain ⟨k,hk,rfl,d,v⟩:=hrel
  by_cases c:k < X.length
  ·have S:(k:Int) < (X.length:Int):=by omega
   have N:wr.cell? ⟨w.heap.size,k,none⟩=some (.string X[k]):=by rw [Lib.cell_of_heap d.out,vI,Jo c];rfl
   have fx:=Lib.frozen_of_heap d.out k;have L:=q.out X[k] (List.getElem_mem c);have p:=Lib.hid (Jp c);have o:Hid (ky X[k]=X[k]→Bj X k=Bj X (k+1)):=Lib.hid (Ht c);obtain ⟨x,H⟩:∃x,X[k]=x:=⟨_,rfl⟩;rw [H] at N L p o;have z:Hid (Calls Tryz.prog 178 #[.string x,.string ⟨#[46]⟩] wr fun e n=>e= .returned (.bool (Lib.hasPrefix x.data.toList [46]))∧wr=n):=Lib.hid ((Tryz.strings_HasPrefix x ⟨#[46]⟩ wr).mono fun _ _ h=>⟨h.1,h.2.symm⟩);have U:¬9223372036854775807 < 1+x.size:=by omega
   cases l:Lib.hasPrefix x.data.toList [46] with
   | true=>
    have D:Hid (ky x=(⟨#[46]⟩:ByteArray)++x):=Lib.hid (by unfold ky;rw [l];rfl);rw [l] at z;clear l H;go_wp2_with (first | (go_at_call 178;refine z.out.mono ?_;rintro e V ⟨rfl,rfl⟩) | fail)
    refine ⟨⟨k+1,by omega,by go_num,Lib.hid ?_,Lib.hid (v.out.trans (((aL.refl w.heap.size wr).setCell _).below (Nat.le_refl _)))⟩,by simp [intOf];omega⟩
    rw [heap_setCell_same wr w.heap.size k _ _ _ d.out,DN,←p.out,D.out]
   | false=>
    have D:Hid (ky x=x):=Lib.hid (by unfold ky;rw [l];rfl);rw [l] at z;clear l H;go_wp2_with (first | (go_at_call 178;refine z.out.mono ?_;rintro e V ⟨rfl,rfl⟩) | fail)
    exact ⟨⟨k+1,by omega,by go_num,Lib.hid (by rw [d.out,o.out D.out]),v⟩,by simp [intOf];omega⟩
  ·have J:k=X.length:=by omega
   subst J;rw [Jn] at d;have K:(X.map ky).length=X.length:=List.length_map ..
   have P:=Lib.hid (Tryz.strings_Join w.heap.size 0 X.length (X.map ky) ⟨#[13,10]⟩ wr (fun j y Z=>by
    rw [Nat.zero_add,Lib.cell_of_heap d.out,vI,Z];rfl) (ah d.out) (by omega) (by omega) (by
    have:=E.out;rw [r.out] at this;have e:(⟨#[13,10]⟩:ByteArray).data.toList=[13,10]:=rfl;rw [e]
    omega))
   rw [K,show (⟨#[13,10]⟩:ByteArray).data.toList=[13,10] from rfl,←r.out] at P;go_wp2_with fail
   refine P.out.mono ?_;rintro e V ⟨rfl,u⟩;have C:=Lib.hid (v.out.trans (u.mono v.out.size));clear u;go_wp2_with fail
   go_ret;exact ⟨rfl,C.out⟩
theorem lU (l:List (aX×Value)) (k i:Nat) (h:k < l.length) (b:i < 5):(fJ l)[k * 5+i]? =(aY l[k].1 l[k].2)[i]? :=by
 induction l generalizing k with
 | nil=>simp at h
 | cons x l ih=>
  show ((aY x.1 x.2).toList++fJ l)[k * 5+i]? =_;have a:(aY x.1 x.2).toList.length=5:=rfl
  cases k with
  | zero=>
   rw [List.getElem?_append_left (by rw [a];omega),Array.getElem?_toList];simp
  | succ k=>
   rw [List.getElem?_append_right (by rw [a];omega),a,show (k+1) * 5+i - 5=k * 5+i by omega]
   exact ih k (by simpa using h)
theorem nL.cells {w:World} {a:Option Addr} {n u:Nat} {f:List aX} (h:nL w (.slice a n u) f):n=f.length∧∀k (C:k < f.length),∃b d p v,a=some ⟨b,d,none⟩∧b < w.heap.size∧
  w.cell? ⟨b,d+k * 5,none⟩=some (.int .i64 f[k].id)∧w.cell? ⟨b,d+k * 5+1,none⟩=some (.int .i64 f[k].time)∧w.cell? ⟨b,d+k * 5+2,none⟩=some (.string (bs f[k].frm))∧
  w.cell? ⟨b,d+k * 5+3,none⟩=some (.slice p f[k].tos.length v)∧w.cell? ⟨b,d+k * 5+4,none⟩=some (.string (bs f[k].body))∧
  ∀j (y:j < f[k].tos.length),∃c o,p=some ⟨c,o,none⟩∧c < w.heap.size∧w.cell? ⟨c,o+j,none⟩=some (.string (bs f[k].tos[j])):=by
 obtain ⟨l,F,J,K⟩:=h;subst F;obtain ⟨L,A,e,H⟩:=J.shape;injection e with e1 e2 e3;subst e1 e3;refine ⟨by rw [e2,List.length_map],fun k C=>?_⟩
 have m:k < l.length:=by simpa using C
 have E:(l.map (·.1))[k]=l[k].1:=by simp
 rw [E];obtain ⟨t,v,G,z⟩:=(K l[k] (List.getElem_mem m)).one
 have g:∀i,i < 5→∃b d,a=some ⟨b,d,none⟩∧b < w.heap.size∧w.cell? ⟨b,d+k * 5+i,none⟩=(aY l[k].1 l[k].2)[i]? :=fun i s=>by
  obtain ⟨b,d,e,x,h⟩:=H k i m s;exact ⟨b,d,e,x,by rw [Nat.add_assoc,h,lU l k i m s]⟩
 obtain ⟨b,d,B,x,N⟩:=g 0 (by omega)
 have q:∀i,i < 5→w.cell? ⟨b,d+k * 5+i,none⟩=(aY l[k].1 l[k].2)[i]? :=fun i s=>by
  obtain ⟨M,D,r,_,h⟩:=g i s;rw [B] at r;injection r with e;injection e with e1 e2;subst e1 e2;exact h
 refine ⟨b,d,t,v,B,x,q 0 (by omega),q 1 (by omega),q 2 (by omega),?_,q 4 (by omega),fun j y=>?_⟩
 ·rw [q 3 (by omega),←G];rfl
 ·obtain ⟨c,o,e,I,h⟩:=z j y;exact ⟨c,o,e,I,by rw [h,eh _ _ y]⟩
theorem MM {l:List (List UInt8)} {t:List UInt8} {k:Nat} (h:k < l.length):(l.take (k+1)).count t=(l.take k).count t+(if l[k]=t then 1 else 0):=by
 rw [List.take_succ_eq_append_getElem h,List.count_append,List.count_singleton];simp only [beq_iff_eq]
theorem EJ (l:List (List UInt8)) (t:List UInt8) (v:Value) (w:World) (h:bg w v l.length 1 (cm l)) (C:l.length≤255):
  Calls Tryz.prog 28 #[v,.string (bs t)] w fun e A=>e= .returned (.int .i64 ((l.count t:Nat):Int))∧w=A:=by
 obtain ⟨a,x,rfl,r⟩:=h.one;have u:=Lib.hid r;clear r h;go_enter Tryz.func28,Tryz.ntmps28;go_wp2_with fail
 go_loop [5,6] (fun n i=>∃k m:Nat,k≤l.length∧m≤k∧n= .int .i64 m∧i= .int .i64 k∧Hid ((l.take k).count t=m)) (fun _ i=>l.length - (intOf i).toNat)
 case atStart=>exact ⟨0,0,Nat.zero_le _,Nat.le_refl _,rfl,rfl,Lib.hid (by simp)⟩
 case round=>
  obtain ⟨k,m,B,D,rfl,rfl,j⟩:=hrel
  by_cases f:k < l.length
  ·have s:(k:Int) < (l.length:Int):=by omega
   obtain ⟨b,z,rfl,_,d⟩:=u.out k f;rw [eh l k f] at d;have c:=MM (t:=t) f
   by_cases g:l[k]=t
   ·have y:((bs l[k]).toList == (bs t).toList)=true:=by rw [tS];simpa using g
    rw [if_pos g,j.out] at c;have p:=Lib.hid c;clear g c;go_wp2_with fail
    exact ⟨⟨k+1,m+1,by omega,by omega,by go_num,by go_num,p⟩,by simp [intOf];omega⟩
   ·have y:((bs l[k]).toList == (bs t).toList)=false:=by rw [tS];simpa using g
    rw [if_neg g,j.out,Nat.add_zero] at c;have p:=Lib.hid c;clear g c;go_wp2_with fail
    exact ⟨⟨k+1,m,by omega,by omega,rfl,by go_num,p⟩,by simp [intOf];omega⟩
  ·have q:k=l.length:=by omega
   subst q;have o:=j.out;rw [List.take_length] at o;go_wp2_with fail
   go_ret;exact ⟨rfl,rfl⟩
theorem Mz (B C:List (List UInt8)) (f:List UInt8) (x y:Value) (w:World) (r:bg w x B.length 1 (cm B)) (m:bg w y C.length 1 (cm C)) (F:B.length≤255) (v:B.Nodup) (o:f=[]→C=[]) (p:f≠[]→C=B):
  Calls Tryz.prog 29 #[x,y,.string (bs f)] w fun e u=>e= .returned (.bool true)∧w=u:=by
 obtain ⟨a,E,rfl,s⟩:=r.one;obtain ⟨D,g,rfl,h⟩:=m.one;have H:=aG f
 by_cases l:f=[]
 ·have e:=o l;subst l e;have q:(bs []).toList.isEmpty=true:=by rw [ByteArray.toList_eq,aI];rfl
  clear s h r m o p;go_enter Tryz.func29,Tryz.ntmps29;go_wp2_with fail
  go_ret;exact ⟨rfl,rfl⟩
 ·have e:=p l;subst e;have q:(bs f).toList.isEmpty=false:=by rw [ByteArray.toList_eq,aI];simpa using l
  have z:=Lib.hid s
  have n:Hid (∀k (t:k < C.length),Calls Tryz.prog 28 #[.slice D C.length g,.string (bs C[k])] w fun e u=>e= .returned (.int .i64 1)∧w=u):=Lib.hid fun k t=>by
   have:=EJ C C[k] _ w m F;rw [v.count,if_pos (List.getElem_mem t)] at this;exact this
  clear s h r m o p l v;go_enter Tryz.func29,Tryz.ntmps29;go_wp2_with fail
  go_loopw [7] (fun i wr=>∃k:Nat,k≤C.length∧i= .int .i64 k∧w=wr) (fun i _=>C.length - (intOf i).toNat)
  case atStart=>exact ⟨0,Nat.zero_le _,rfl,rfl⟩
  case round=>
   obtain ⟨k,t,rfl,rfl⟩:=hrel
   by_cases d:k < C.length
   ·have j:(k:Int) < (C.length:Int):=by omega
    obtain ⟨b,G,rfl,_,c⟩:=z.out k d;rw [eh C k d] at c;have A:=Lib.hid (n.out k d);go_wp2_with fail
    refine A.out.mono ?_;rintro e I ⟨rfl,rfl⟩;go_wp2_with fail
    exact ⟨⟨k+1,by omega,by go_num,trivial⟩,by simp [intOf];omega⟩
   ·have j:¬(k:Int) < (C.length:Int):=by omega
    go_wp2_with fail
    go_ret;exact ⟨rfl,rfl⟩
end Go.Proofs.YtofpegbpgkkgkaaGreatDoor
